import Derived.Test.YtchjijifmjbgoaaDoorGu
namespace Go.Proofs.YtchjijifmjbgoaaDoor.Tn
open Go.ChangeShapes Go.WideShapes Go.ChangeAt Go.RowKit Go.Proofs.YtchjijifmjbgoaaDoor.Fx Go.Proofs.YtchjijifmjbgoaaDoor.Rf

/-! ### what package tensor answers -/
def rowL (l : List Int) (c i : Nat) : List Int := (l.drop (i * c)).take c
def rowE (r c : Int) (l : List Int) (i : Int) : Int := if chkM r c l ≠ 0 then chkM r c l else if i < 0 ∨ r ≤ i then 10 else 0
def rowV (r c : Int) (l : List Int) (i : Int) : List Int := if rowE r c l i = 0 then rowL l c.toNat i.toNat else []
def firstE : List Int → Int
  | [] => 0
  | e :: es => if e ≠ 0 then e else firstE es
def dotsE (l : List Int) (c : Nat) (v : List Int) (n : Nat) : List Int := (List.range n).map fun i => dotE (rowL l c i) v
def dotsR (l : List Int) (c : Nat) (v : List Int) (n : Nat) : List Int := (List.range n).map fun i => dotR (rowL l c i) v
def mulE (r c : Int) (l v : List Int) : Int := if chkM r c l ≠ 0 then chkM r c l else if (v.length : Int) ≠ c then 13 else firstE (dotsE l c.toNat v r.toNat)
def mulV (r c : Int) (l v : List Int) : List Int := if mulE r c l v = 0 then dotsR l c.toNat v r.toNat else []
def sums (a b : List Int) : List Int := (List.range a.length).map fun i => a.getD i 0 + b.getD i 0
def addE (a b : List Int) : Int := if a.length ≠ b.length then 13 else if chkV a ≠ 0 then chkV a else if chkV b ≠ 0 then chkV b else if ∀ x ∈ sums a b, isN x then 0 else 17
def addV (a b : List Int) : List Int := if addE a b = 0 then sums a b else []
def topE (l : List Int) (k : Int) : Int := if chkV l ≠ 0 then chkV l else if k < 1 ∨ (l.length : Int) < k then 10 else 0
def topV (l : List Int) (k : Int) : List Int := if topE l k = 0 then topI l k.toNat else []
def mostR (l : List Int) : Int := if chkV l = 0 then (nextT l [] : Int) else 0
def smV (l : List Int) : List Int := if chkV l = 0 then smx l else []
def rotE (l : List Int) (at_ : Int) : Int := if l.length % 2 ≠ 0 then 13 else if chkV l ≠ 0 then chkV l else if at_ < 0 ∨ 1023 < at_ then 10 else if rotOk l at_.toNat (l.length / 2) then 0 else 17
def rotV (l : List Int) (at_ : Int) : List Int := if rotE l at_ = 0 then rotL l at_.toNat (l.length / 2) else []
def matV (r c : Int) (sp : Option Addr) (n cap : Nat) : Value := .agg #[.int .i64 r, .int .i64 c, .slice sp n cap]
/-- the table of angles, where a row lists it -/
def AngTab (w : World) : Prop := ∃ (t : TypeId) (fr : Nat × Nat), w.heap[0]? = some (.cells #[.int .i64 39322, .int .i64 52429, .int .i64 60495, .int .i64 25206, .int .i64 57826, .int .i64 30840, .int .i64 62915, .int .i64 18350] t fr)
theorem AngTab.below {w w' : World} (h : AngTab w) (hb : Below w.heap.size w w') : AngTab w' := by
  obtain ⟨t, fr, h0⟩ := h
  exact ⟨t, fr, (hb.block _ (Array.getElem?_eq_some_iff.1 h0).1).trans h0⟩
/-- the calls of package tensor, as the document's answer tells them; E: what the package's tables hold -/
structure TensorOK (E : World → Prop) : Prop where
  env : ∀ w w', E w → Below w.heap.size w w' → E w'
  check : ∀ (w : World) (sp : Option Addr) (cap : Nat) (l : List Int), E w → Nums w sp cap l → Calls Tryd.prog 16 #[.slice sp l.length cap] w fun e w' => e = .returned (.int .i64 (chkV l)) ∧ Below w.heap.size w w'
  mcheck : ∀ (w : World) (r c : Int) (sp : Option Addr) (cap : Nat) (l : List Int), E w → Nums w sp cap l → Calls Tryd.prog 15 #[matV r c sp l.length cap] w fun e w' => e = .returned (.int .i64 (chkM r c l)) ∧ Below w.heap.size w w'
  row : ∀ (w : World) (r c i : Int) (sp : Option Addr) (cap : Nat) (l : List Int), E w → Nums w sp cap l → -9223372036854775808 ≤ i → i ≤ 9223372036854775807 → Calls Tryd.prog 14 #[matV r c sp l.length cap, .int .i64 i] w (AnsE w (rowV r c l i) (rowE r c l i))
  dot : ∀ (w : World) (sp sq : Option Addr) (cap caq : Nat) (row v : List Int), E w → Nums w sp cap row → Nums w sq caq v → Calls Tryd.prog 19 #[.slice sp row.length cap, .slice sq v.length caq] w fun e w' => e = .returned (.tuple #[.int .i64 (dotR row v), .int .i64 (dotE row v)]) ∧ Below w.heap.size w w'
  mul : ∀ (w : World) (r c : Int) (sp sq : Option Addr) (cap caq : Nat) (l v : List Int), E w → Nums w sp cap l → Nums w sq caq v → Calls Tryd.prog 21 #[matV r c sp l.length cap, .slice sq v.length caq] w (AnsE w (mulV r c l v) (mulE r c l v))
  add : ∀ (w : World) (sp sq : Option Addr) (cap caq : Nat) (a b : List Int), E w → Nums w sp cap a → Nums w sq caq b → Calls Tryd.prog 33 #[.slice sp a.length cap, .slice sq b.length caq] w (AnsE w (addV a b) (addE a b))
  softmax : ∀ (w : World) (sp : Option Addr) (cap : Nat) (l : List Int), E w → Nums w sp cap l → Calls Tryd.prog 23 #[.slice sp l.length cap] w (AnsE w (smV l) (chkV l))
  mix : ∀ (w : World) (sp sq : Option Addr) (cap caq : Nat) (ss : List Int) (ls : List (List Int)), E w → Nums w sp cap ss → Vecs w sq caq ls → Calls Tryd.prog 25 #[.slice sp ss.length cap, .slice sq ls.length caq] w (AnsE w (mixV ss ls) (mixE ss ls))
  most : ∀ (w : World) (sp : Option Addr) (cap : Nat) (l : List Int), E w → Nums w sp cap l → Calls Tryd.prog 31 #[.slice sp l.length cap] w fun e w' => e = .returned (.tuple #[.int .i64 (mostR l), .int .i64 (chkV l)]) ∧ Below w.heap.size w w'
  top : ∀ (w : World) (sp : Option Addr) (cap : Nat) (l : List Int) (k : Int), E w → Nums w sp cap l → l.length ≤ 12 → -9223372036854775808 ≤ k → k ≤ 9223372036854775807 → Calls Tryd.prog 30 #[.slice sp l.length cap, .int .i64 k] w (AnsE w (topV l k) (topE l k))

/-- Top, of whatever list -/
def TopAll (E : World → Prop) : Prop := ∀ (w : World) (sp : Option Addr) (cap : Nat) (l : List Int) (k : Int), E w → Nums w sp cap l → -9223372036854775808 ≤ k → k ≤ 9223372036854775807 → Calls Tryd.prog 30 #[.slice sp l.length cap, .int .i64 k] w (AnsE w (topV l k) (topE l k))
/-- Rotate -/
def RotOK (E : World → Prop) : Prop := ∀ (w : World) (sp : Option Addr) (cap : Nat) (l : List Int) (at_ : Int), E w → AngTab w → Nums w sp cap l → -9223372036854775808 ≤ at_ → at_ ≤ 9223372036854775807 → Calls Tryd.prog 28 #[.slice sp l.length cap, .int .i64 at_] w (AnsE w (rotV l at_) (rotE l at_))
/-- a new block that holds numbers -/
theorem nums_new (w : World) (l : List Int) (cs : Array Value) (n : Nat) (hc : cs = (l.map (Value.int .i64)).toArray) (hn : l.length = n) (hl : n ≤ 1000000) : Nums (w.alloc (.cells cs 3)) (some ⟨w.heap.size, 0, none⟩) n l := by
  subst hn
  have h := Sl.new w (l.map (Value.int .i64)) cs 3 (0, 0) hc (by simpa using hl)
  rw [List.length_map] at h
  exact h
set_option maxRecDepth 100000 in
set_option maxHeartbeats 4000000 in
theorem awake_any {E : World → Prop} (T : TensorOK E) (w : World) (he : E w) : Calls Tryd.prog 12 #[] w fun e w' => e = .returned (.bool true) ∧ Below w.heap.size w w' := by
  have HE := Lib.hid he
  have HT := Lib.hid T
  clear he T
  go_enter Tryd.func12, Tryd.ntmps12
  go_wp2_with fail
  have b0 : Below w.heap.size w ((w.alloc (.cells #[.int .i64 65536, .int .i64 32768] 3)).alloc (.cells #[.int .i64 2, .int .i64 4] 3)) := ((Below.refl _ _).alloc (Nat.le_refl _) _).alloc (by simp) _
  have n2 := nums_new (w.alloc (.cells #[.int .i64 65536, .int .i64 32768] 3)) [2, 4] #[.int .i64 2, .int .i64 4] 2 rfl rfl (by omega)
  have n1 := (nums_new w [65536, 32768] #[.int .i64 65536, .int .i64 32768] 2 rfl rfl (by omega)).below ((Below.refl _ _).alloc (Nat.le_refl _) (.cells #[.int .i64 2, .int .i64 4] 3))
  rw [World.size_alloc] at n2
  refine (HT.out.dot _ _ _ 2 2 [65536, 32768] [2, 4] (HT.out.env _ _ HE.out b0) n1 n2).mono ?_
  rintro e w1 ⟨rfl, hb1⟩
  rw [show dotR [65536, 32768] [2, 4] = 4 by kernel_rfl, show dotE [65536, 32768] [2, 4] = 0 by kernel_rfl]
  have HB1 := Lib.hid (b0.trans (hb1.mono b0.size))
  clear b0 n1 n2 hb1
  go_wp2_with fail
  have b1 : Below w.heap.size w (w1.alloc (.cells #[.int .i64 7, .int .i64 7] 3)) := HB1.out.alloc HB1.out.size _
  have n1 := nums_new w1 [7, 7] #[.int .i64 7, .int .i64 7] 2 rfl rfl (by omega)
  refine (HT.out.softmax _ _ 2 [7, 7] (HT.out.env _ _ HE.out b1) n1).mono ?_
  rintro e w2 ⟨s2, c2, rfl, hn2, hb2⟩
  rw [show smV [7, 7] = [32768, 32768] by kernel_rfl] at hn2 ⊢
  rw [show chkV [7, 7] = 0 by kernel_rfl]
  have HN2 := Lib.hid hn2
  have HB2 := Lib.hid (b1.trans (hb2.mono b1.size))
  rw [show ([32768, 32768] : List Int).length = 2 from rfl]
  clear b1 n1 hb2 hn2
  go_wp2_with fail
  have b2 : Below w.heap.size w (w2.alloc (.cells #[.int .i64 3, .int .i64 9, .int .i64 9, .int .i64 1] 3)) := HB2.out.alloc HB2.out.size _
  have n1 := nums_new w2 [3, 9, 9, 1] #[.int .i64 3, .int .i64 9, .int .i64 9, .int .i64 1] 4 rfl rfl (by omega)
  refine (HT.out.top _ _ 4 [3, 9, 9, 1] 3 (HT.out.env _ _ HE.out b2) n1 (by decide) (by omega) (by omega)).mono ?_
  rintro e w3 ⟨s3, c3, rfl, hn3, hb3⟩
  rw [show topV [3, 9, 9, 1] 3 = [1, 2, 0] by kernel_rfl] at hn3 ⊢
  rw [show topE [3, 9, 9, 1] 3 = 0 by kernel_rfl]
  have hb23 : Below w2.heap.size w2 w3 := ((Below.refl _ _).alloc (Nat.le_refl _) _).trans (hb3.mono (by simp))
  have HN2b := Lib.hid (HN2.out.below hb23)
  have HN3 := Lib.hid hn3
  have HB3 := Lib.hid (b2.trans (hb3.mono b2.size))
  rw [show ([1, 2, 0] : List Int).length = 3 from rfl]
  clear b2 n1 hb3 hn3 hb23 HN2
  go_wp2_with fail
  have b3 : Below w3.heap.size w3 (w3.alloc (.cells #[.int .i64 32768, .int .i64 32768] 3)) := (Below.refl _ _).alloc (Nat.le_refl _) _
  have n1 := nums_new w3 [32768, 32768] #[.int .i64 32768, .int .i64 32768] 2 rfl rfl (by omega)
  refine (ints_same _ _ _ _ _ 2 [32768, 32768] rfl (HN2b.out.below b3) n1).mono ?_
  rintro e w4 ⟨rfl, hb4⟩
  have hb34 : Below w3.heap.size w3 w4 := b3.trans (hb4.mono (by simp))
  have HN3b := Lib.hid (HN3.out.below hb34)
  have HB4 := Lib.hid (HB3.out.trans (hb34.mono HB3.out.size))
  clear b3 n1 hb4 hb34 HN2b HN3
  go_wp2_with fail
  have b4 : Below w4.heap.size w4 (w4.alloc (.cells #[.int .i64 1, .int .i64 2, .int .i64 0] 3)) := (Below.refl _ _).alloc (Nat.le_refl _) _
  have n1 := nums_new w4 [1, 2, 0] #[.int .i64 1, .int .i64 2, .int .i64 0] 3 rfl rfl (by omega)
  refine (ints_same _ _ _ _ _ 3 [1, 2, 0] rfl (HN3b.out.below b4) n1).mono ?_
  rintro e w5 ⟨rfl, hb5⟩
  have HB5 := Lib.hid (HB4.out.trans ((b4.trans (hb5.mono (by simp))).mono HB4.out.size))
  clear b4 n1 hb5
  go_wp2
  go_ret
  exact ⟨rfl, HB5.out⟩
set_option maxRecDepth 100000 in
set_option maxHeartbeats 4000000 in
theorem same_any (w : World) (sp sq : Option Addr) (cap caq N : Nat) (l : List Int) (x : Int) (hN : l.length = N) (hl : Nums w sp cap l) (hm : Nums w sq caq l) :
    Calls Tryd.prog 27 #[.slice sp N cap, .int .i64 x, .slice sq N caq, .int .i64 x] w fun e w' => e = .returned (.bool true) ∧ Below w.heap.size w w' := by
  have HC := Lib.hid (ints_same w sp sq cap caq N l hN hl hm)
  clear hl hm hN
  go_enter Tryd.func27, Tryd.ntmps27
  go_wp2_with fail
  refine HC.out.mono ?_
  rintro e w1 ⟨rfl, hb1⟩
  have HB := Lib.hid hb1
  clear hb1
  go_wp2
  go_ret
  exact ⟨rfl, HB.out⟩
end Go.Proofs.YtchjijifmjbgoaaDoor.Tn
