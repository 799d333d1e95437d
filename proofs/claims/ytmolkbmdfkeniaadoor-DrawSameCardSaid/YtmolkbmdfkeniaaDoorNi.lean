import Derived.Test.YtmolkbmdfkeniaaDoorNh
namespace Go.Proofs.YtmolkbmdfkeniaaDoor.Dr
set_option maxRecDepth 100000
open Go.ChangeShapes Go.WideShapes Go.ChangeAt Go.RowKit Go.Proofs.YtmolkbmdfkeniaaDoor.Tn

/-! ### the landed code: what goes back after an error; package draw as one fact -/
set_option maxHeartbeats 4000000 in
theorem drawnI_any (w : World) (g : Nat) (s : List Int) (c : Int) (n : Int) (R : Int × Nat × Int) (h : St8 w g s c) (hf : R.2.2 ≠ 0 → R.1 = 0 ∧ R.2.1 = 0) (hC : ∀ W, Below w.heap.size w W → Calls Tryd.prog 29 #[ptV g, .int .i64 n] W (BelowA W g s c R)) :
    Calls Tryd.prog 28 #[ptV g, .func (.func 29) #[ptV g] #[], .int .i64 n] w fun e w' => e = .returned (two R.1 R.2.2) ∧ St8 w' g s (c + R.2.1) ∧ w.grownBy w' (some g) := by
  have HS := Lib.hid h
  have HC := Lib.hid hC
  have HF := Lib.hid hf
  have c1 := HS.out.count
  unfold ptV at HC ⊢
  clear h hC hf
  go_enter Tryd.func28, Tryd.ntmps28
  go_wp2_with fail
  refine (HC.out _ (Below.refl _ _)).mono ?_
  rintro e w2 ⟨rfl, c', hs2, hc', hg2⟩
  obtain ⟨x, f, er⟩ := R
  unfold two
  dsimp only at HF hc' ⊢
  have HG2 := Lib.hid (hg2)
  have HS2 := Lib.hid hs2
  have HC2 := Lib.hid hc'
  clear c1 hs2 hg2 hc'
  by_cases hE : er = 0
  · subst hE
    go_wp2
    go_ret2
    exact ⟨rfl, by rw [← HC2.out trivial]; exact HS2.out, HG2.out⟩
  · have e1 := ne_of0 hE
    obtain ⟨rfl, rfl⟩ := HF.out hE
    have c2 := HS2.out.count
    have f2 := HS2.out.free
    have HP := Lib.hid (HS2.out.put c HS.out.rng.1 HS.out.rng.2)
    clear hE
    go_wp2
    go_ret2
    exact ⟨rfl, by simpa using HP.out, grown_trans HG2.out (grown_put (Below.refl _ _) _)⟩
set_option maxHeartbeats 4000000 in
theorem drawnL_any (w : World) (g : Nat) (s : List Int) (c : Int) (sp : Option Addr) (cap N : Nat) (R : Int × Nat × Int) (h : St8 w g s c) (hf : R.2.2 ≠ 0 → R.1 = 0 ∧ R.2.1 = 0) (hC : ∀ W, Below w.heap.size w W → Calls Tryd.prog 31 #[ptV g, .slice sp N cap] W (BelowA W g s c R)) :
    Calls Tryd.prog 30 #[ptV g, .func (.func 31) #[ptV g] #[], .slice sp N cap] w fun e w' => e = .returned (two R.1 R.2.2) ∧ St8 w' g s (c + R.2.1) ∧ w.grownBy w' (some g) := by
  have HS := Lib.hid h
  have HC := Lib.hid hC
  have HF := Lib.hid hf
  have c1 := HS.out.count
  unfold ptV at HC ⊢
  clear h hC hf
  go_enter Tryd.func30, Tryd.ntmps30
  go_wp2_with fail
  refine (HC.out _ (Below.refl _ _)).mono ?_
  rintro e w2 ⟨rfl, c', hs2, hc', hg2⟩
  obtain ⟨x, f, er⟩ := R
  unfold two
  dsimp only at HF hc' ⊢
  have HG2 := Lib.hid (hg2)
  have HS2 := Lib.hid hs2
  have HC2 := Lib.hid hc'
  clear c1 hs2 hg2 hc'
  by_cases hE : er = 0
  · subst hE
    go_wp2
    go_ret2
    exact ⟨rfl, by rw [← HC2.out trivial]; exact HS2.out, HG2.out⟩
  · have e1 := ne_of0 hE
    obtain ⟨rfl, rfl⟩ := HF.out hE
    have c2 := HS2.out.count
    have f2 := HS2.out.free
    have HP := Lib.hid (HS2.out.put c HS.out.rng.1 HS.out.rng.2)
    clear hE
    go_wp2
    go_ret2
    exact ⟨rfl, by simpa using HP.out, grown_trans HG2.out (grown_put (Below.refl _ _) _)⟩
theorem sizeGr : (Tryd.prog.info? 66).map (·.size) = some 2 := by kernel_rfl
set_option maxHeartbeats 4000000 in
theorem drawnG_any (w : World) (g : Nat) (s : List Int) (c : Int) (sp : Option Addr) (cap N : Nat) (k : Int) (R : Int × Nat × Int) (h : St8 w g s c) (hf : R.2.2 ≠ 0 → R.1 = 0 ∧ R.2.1 = 0) (hC : ∀ W, Below w.heap.size w W → Calls Tryd.prog 33 #[ptV g, .agg #[.slice sp N cap, .int .i64 k]] W (BelowA W g s c R)) :
    Calls Tryd.prog 32 #[ptV g, .func (.func 33) #[ptV g] #[], .agg #[.slice sp N cap, .int .i64 k]] w fun e w' => e = .returned (two R.1 R.2.2) ∧ St8 w' g s (c + R.2.1) ∧ w.grownBy w' (some g) := by
  have HS := Lib.hid h
  have HC := Lib.hid hC
  have HF := Lib.hid hf
  have HB0 : Hid (Below w.heap.size w (w.alloc (.cells #[.slice sp N cap, .int .i64 k] 66))) := Lib.hid ((Below.refl _ _).alloc (Nat.le_refl _) _)
  have HD0 : Hid ((w.alloc (.cells #[.slice sp N cap, .int .i64 k] 66)).heap[w.heap.size]? = some (.cells #[.slice sp N cap, .int .i64 k] 66 (0, 0))) := Lib.hid (heap_alloc_new _ _)
  have c0 := (HS.out.later HB0.out).count
  have c1 := HS.out.count
  unfold ptV at HC ⊢
  clear h hC hf
  go_enter Tryd.func32, Tryd.ntmps32
  go_wp2_with (refine wpList_load_row rfl 66 (.tmp 5) rfl w.heap.size rfl 66 #[.slice sp N cap, .int .i64 k] (0, 0) _ HD0.out Tryd.underlying66 rfl sizeGr ?_)
  refine (HC.out _ HB0.out).mono ?_
  rintro e w2 ⟨rfl, c', hs2, hc', hg2⟩
  obtain ⟨x, f, er⟩ := R
  unfold two
  dsimp only at HF hc' ⊢
  have HG2 := Lib.hid (grown_trans (grown_of HB0.out) hg2)
  have HS2 := Lib.hid hs2
  have HC2 := Lib.hid hc'
  clear c0 c1 hs2 hg2 hc'
  by_cases hE : er = 0
  · subst hE
    go_wp2
    go_ret2
    exact ⟨rfl, by rw [← HC2.out trivial]; exact HS2.out, HG2.out⟩
  · have e1 := ne_of0 hE
    obtain ⟨rfl, rfl⟩ := HF.out hE
    have c2 := HS2.out.count
    have f2 := HS2.out.free
    have HP := Lib.hid (HS2.out.put c HS.out.rng.1 HS.out.rng.2)
    clear hE
    go_wp2
    go_ret2
    exact ⟨rfl, by simpa using HP.out, grown_trans HG2.out (grown_put (Below.refl _ _) _)⟩
set_option maxHeartbeats 4000000 in
theorem nilDrI_any (w : World) (n : Int) (f : Value) : Calls Tryd.prog 28 #[.pointer none, f, .int .i64 n] w fun e w' => e = .returned (two 0 2) ∧ Below w.heap.size w w' := by
  go_enter Tryd.func28, Tryd.ntmps28
  go_wp2
  go_ret2
  exact ⟨rfl, (Below.refl _ _)⟩
set_option maxHeartbeats 4000000 in
theorem nilDrL_any (w : World) (sp : Option Addr) (cap N : Nat) (f : Value) : Calls Tryd.prog 30 #[.pointer none, f, .slice sp N cap] w fun e w' => e = .returned (two 0 2) ∧ Below w.heap.size w w' := by
  go_enter Tryd.func30, Tryd.ntmps30
  go_wp2
  go_ret2
  exact ⟨rfl, (Below.refl _ _)⟩
set_option maxHeartbeats 4000000 in
theorem nilDrG_any (w : World) (sp : Option Addr) (cap N : Nat) (k : Int) (f : Value) : Calls Tryd.prog 32 #[.pointer none, f, .agg #[.slice sp N cap, .int .i64 k]] w fun e w' => e = .returned (two 0 2) ∧ Below w.heap.size w w' := by
  go_enter Tryd.func32, Tryd.ntmps32
  go_wp2
  go_ret2
  exact ⟨rfl, (Below.refl _ _).alloc (Nat.le_refl _) _⟩
set_option maxHeartbeats 4000000 in
theorem dbelow_any (w : World) (g : Nat) (s : List Int) (c : Int) (n : Int) (he : E8 w) (h : St8 w g s c) (n1 : -9223372036854775808 ≤ n) (n2 : n ≤ 9223372036854775807) :
    Calls Tryd.prog 17 #[ptV g, .int .i64 n] w fun e w' => e = .returned (two (belowD (numV s) c n).1 (belowD (numV s) c n).2.2) ∧ St8 w' g s (c + (belowD (numV s) c n).2.1) ∧ w.grownBy w' (some g) := by
  have HD := Lib.hid (drawnI_any w g s c n (belowD (numV s) c n) h (belowD_fit (numV s) c n h.rng.2).2.2.2 (fun W hW => below_any W g s c n (he.below hW) (h.later hW) n1 n2))
  obtain ⟨R, hR⟩ : ∃ R, belowD (numV s) c n = R := ⟨_, rfl⟩
  rw [hR] at HD ⊢
  unfold ptV at HD ⊢
  clear h he hR
  go_enter Tryd.func17, Tryd.ntmps17
  go_wp2_with fail
  refine HD.out.mono ?_
  rintro e w2 ⟨rfl, hs2, hg2⟩
  have HS2 := Lib.hid hs2
  have HG2 := Lib.hid hg2
  clear hs2 hg2
  unfold two
  go_wp2
  go_ret2
  exact ⟨rfl, HS2.out, HG2.out⟩
set_option maxHeartbeats 4000000 in
theorem dchoose_any (w : World) (g : Nat) (s : List Int) (c : Int) (sp : Option Addr) (cap N : Nat) (ws : List Int) (he : E8 w) (h : St8 w g s c) (hN : ws.length = N) (hl : Nums w sp cap ws) (ha : Apart sp g ws) :
    Calls Tryd.prog 19 #[ptV g, .slice sp N cap] w fun e w' => e = .returned (two (chooseD (numV s) c ws).1 (chooseD (numV s) c ws).2.2) ∧ St8 w' g s (c + (chooseD (numV s) c ws).2.1) ∧ w.grownBy w' (some g) := by
  have HD := Lib.hid (drawnL_any w g s c sp cap N (chooseD (numV s) c ws) h (chooseD_fit (numV s) c ws h.rng.2).2.2.2 (fun W hW => choose_any W g s c sp cap N ws (he.below hW) (h.later hW) hN (hl.below hW) ha))
  obtain ⟨R, hR⟩ : ∃ R, chooseD (numV s) c ws = R := ⟨_, rfl⟩
  rw [hR] at HD ⊢
  unfold ptV at HD ⊢
  clear h he hR
  go_enter Tryd.func19, Tryd.ntmps19
  go_wp2_with fail
  refine HD.out.mono ?_
  rintro e w2 ⟨rfl, hs2, hg2⟩
  have HS2 := Lib.hid hs2
  have HG2 := Lib.hid hg2
  clear hs2 hg2
  unfold two
  go_wp2
  go_ret2
  exact ⟨rfl, HS2.out, HG2.out⟩
set_option maxHeartbeats 4000000 in
theorem dpick_any (w : World) (g : Nat) (s : List Int) (c : Int) (sp : Option Addr) (cap N : Nat) (v : List Int) (k : Int) (he : E8 w) (h : St8 w g s c) (hN : v.length = N) (hl : Nums w sp cap v) (k1 : -9223372036854775808 ≤ k) (k2 : k ≤ 9223372036854775807) (hp : PickTop w sp cap v k) :
    Calls Tryd.prog 21 #[ptV g, .slice sp N cap, .int .i64 k] w fun e w' => e = .returned (two (pickD (numV s) c v k).1 (pickD (numV s) c v k).2.2) ∧ St8 w' g s (c + (pickD (numV s) c v k).2.1) ∧ w.grownBy w' (some g) := by
  have HD := Lib.hid (drawnG_any w g s c sp cap N k (pickD (numV s) c v k) h (pickD_fit (numV s) c v k h.rng.2).2.2.2 (fun W hW => pick_any W g s c sp cap N v k (he.below hW) (h.later hW) hN (hl.below hW) k1 k2 (fun W2 hW2 => hp W2 (hW.trans (hW2.mono hW.size)))))
  obtain ⟨R, hR⟩ : ∃ R, pickD (numV s) c v k = R := ⟨_, rfl⟩
  rw [hR] at HD ⊢
  unfold ptV at HD ⊢
  clear h he hR
  go_enter Tryd.func21, Tryd.ntmps21
  go_wp2_with fail
  refine HD.out.mono ?_
  rintro e w2 ⟨rfl, hs2, hg2⟩
  have HS2 := Lib.hid hs2
  have HG2 := Lib.hid hg2
  clear hs2 hg2
  unfold two
  go_wp2
  go_ret2
  exact ⟨rfl, HS2.out, HG2.out⟩
set_option maxHeartbeats 4000000 in
theorem nilBelow_any (w : World) (n : Int) :
    Calls Tryd.prog 17 #[.pointer none, .int .i64 n] w fun e w' => e = .returned (two 0 2) ∧ Below w.heap.size w w' := by
  have HD := Lib.hid (fun f => nilDrI_any w n f)
  go_enter Tryd.func17, Tryd.ntmps17
  go_wp2_with fail
  refine (HD.out _).mono ?_
  rintro e w2 ⟨rfl, hb2⟩
  have HB2 := Lib.hid hb2
  clear hb2
  unfold two
  go_wp2
  go_ret2
  exact ⟨rfl, HB2.out⟩
set_option maxHeartbeats 4000000 in
theorem nilChoose_any (w : World) (sp : Option Addr) (N cap : Nat) :
    Calls Tryd.prog 19 #[.pointer none, .slice sp N cap] w fun e w' => e = .returned (two 0 2) ∧ Below w.heap.size w w' := by
  have HD := Lib.hid (fun f => nilDrL_any w sp cap N f)
  go_enter Tryd.func19, Tryd.ntmps19
  go_wp2_with fail
  refine (HD.out _).mono ?_
  rintro e w2 ⟨rfl, hb2⟩
  have HB2 := Lib.hid hb2
  clear hb2
  unfold two
  go_wp2
  go_ret2
  exact ⟨rfl, HB2.out⟩
set_option maxHeartbeats 4000000 in
theorem nilPick_any (w : World) (sp : Option Addr) (N cap : Nat) (k : Int) :
    Calls Tryd.prog 21 #[.pointer none, .slice sp N cap, .int .i64 k] w fun e w' => e = .returned (two 0 2) ∧ Below w.heap.size w w' := by
  have HD := Lib.hid (fun f => nilDrG_any w sp cap N k f)
  go_enter Tryd.func21, Tryd.ntmps21
  go_wp2_with fail
  refine (HD.out _).mono ?_
  rintro e w2 ⟨rfl, hb2⟩
  have HB2 := Lib.hid hb2
  clear hb2
  unfold two
  go_wp2
  go_ret2
  exact ⟨rfl, HB2.out⟩
/-- package draw, where Top is known of what Pk tells -/
theorem draw_ok (Pk : List Int → Prop) (hT : ∀ w sp cap v k, Pk v → E8 w → Nums w sp cap v → -9223372036854775808 ≤ k → k ≤ mostC → PickTop w sp cap v k) : DrawOK E8 numV St8 Pk where
  env _ _ he hb := he.below hb
  later _ _ _ _ _ h hb := h.later hb
  apart _ _ _ _ _ _ h hb hne := h.apart hb hne
  lt _ _ _ _ h := h.lt
  seed _ _ _ _ h := ⟨h.seed, h.rng⟩
  rng s c _ := numV_in s c
  number w s c he hs h1 h2 := dnumber_any w s c he hs h1 h2
  newNo w s c _ _ _ hc := dnewNo_any w s c hc
  new w s c he hs h0 h1 := dnew_any w s c he hs h0 h1
  next w g s c he h := dnext_any w g s c he h
  count w g s c _ h := dcount_any w g s c h
  below w g s c n he h n1 n2 := dbelow_any w g s c n he h n1 n2
  grown _ _ _ _ _ he h hg := he.grown hg h.far
  choose w g s c sp cap ws he h hl ha := dchoose_any w g s c sp cap _ ws he h rfl hl ha
  pick w g s c sp cap v k he h hl hp k1 k2 := dpick_any w g s c sp cap _ v k he h rfl hl k1 k2 (hT w sp cap v k hp he hl k1 k2)
  nilNext w := nilNext_any w
  nilCount w := nilCount_any w
  nilBelow w n := nilBelow_any w n
  nilChoose w sp N cap := nilChoose_any w sp N cap
  nilPick w sp N cap k := nilPick_any w sp N cap k
/-- of up to twelve numbers -/
theorem draw_few : DrawOK E8 numV St8 (fun v => v.length ≤ 12) := draw_ok _ fun _ _ _ _ _ hv _ hl k1 k2 W hW =>
  top_small W _ _ _ _ _ rfl (hl.below hW) hv k1 k2
end Go.Proofs.YtmolkbmdfkeniaaDoor.Dr
