import Derived.Test.YtchjijifmjbgoaaDoorGe
namespace Go.Proofs.YtchjijifmjbgoaaDoor.Tn
open Go.ChangeShapes Go.WideShapes Go.ChangeAt Go.RowKit Go.Proofs.YtchjijifmjbgoaaDoor.Fx Go.Proofs.YtchjijifmjbgoaaDoor.Rf

theorem results_two {P : Program} {fn : Func} {p q : Tmp} {ty : TypeId} (h : fn.results = #[.cell p ty, .tmp q]) (tmps : Array Value) (w : World) (g : Nat) (t : TypeId) (cs : Array Value) (fr : Nat × Nat) (d : TypeDesc) (v : Value)
    (hp : tmps.getD p undef = .pointer (some ⟨g, 0, none⟩)) (hq : tmps.getD q undef = v) (hg : w.heap[g]? = some (.cells cs t fr))
    (hu : P.underlying ty = some d) (hd : (match d with | .struct _ | .array _ _ => true | _ => false) = true) (hi : (P.info? ty).map (·.size) = some cs.size) :
    (results fn tmps).run P w = .ok (.tuple #[.agg cs, v]) w := by
  have hp' : tmps[p]?.getD undef = .pointer (some ⟨g, 0, none⟩) := by simpa using hp
  have hq' : tmps[q]?.getD undef = v := by simpa using hq
  simp [results, h, hp', hq', asAddr, run_loadVar_row w g t ty cs fr d hg hu hd hi]
theorem prod_in {a b : Int} (ha : isN a) (hb : isN b) : -4611686018427387904 ≤ a * b ∧ a * b ≤ 4611686018427387904 := by
  unfold isN at *
  have := mul_small (a := a) (b := b) (A := 2147483648) (B := 2147483648) (by omega) (by omega)
  omega
set_option maxRecDepth 100000 in
set_option maxHeartbeats 4000000 in
theorem rmul_any (w : World) (a b : Int) (ha : isN a) (hb : isN b) :
    Calls Tryd.prog 76 #[.int .i64 a, .int .i64 b] w fun e w' => e = .returned (.tuple #[.int .i64 (orNil (rnd (a * b))), .int .i64 (over (rnd (a * b)))]) ∧ w = w' := by
  obtain ⟨m1, m2⟩ := prod_in ha hb
  clear ha hb
  go_enter Tryd.func76, Tryd.ntmps76
  go_wp2_with fail
  refine (round_any _ (a * b) m1 m2).mono ?_
  rintro e w' ⟨rfl, rfl⟩
  go_wp2_with fail
  refine (told_any _ (rnd (a * b))).mono ?_
  rintro e w' ⟨rfl, rfl⟩
  go_wp2
  go_ret2
  exact ⟨rfl, rfl⟩
theorem over_yes {n : Int} (h : isN n) : over n = 0 ∧ orNil n = n := by unfold over orNil; rw [if_pos h, if_pos h]; exact ⟨rfl, rfl⟩
theorem over_no {n : Int} (h : ¬ isN n) : over n = 17 ∧ orNil n = 0 := by unfold over orNil; rw [if_neg h, if_neg h]; exact ⟨rfl, rfl⟩
theorem size_pair : (Tryd.prog.info? 78).map (·.size) = some 2 := by kernel_rfl
theorem top3 (w : World) (X Y : Obj) (cs : Array Value) (t : TypeId) : (((w.alloc X).alloc Y).alloc (.cells cs t)).heap[w.heap.size + 1 + 1]? = some (.cells cs t (0, 0)) := by
  have h := heap_alloc_new ((w.alloc X).alloc Y) (.cells cs t)
  rw [World.size_alloc, World.size_alloc] at h
  exact h
theorem below3 (w : World) (X Y Z : Obj) : Below w.heap.size w (((w.alloc X).alloc Y).alloc Z) := (((Below.refl _ _).alloc (Nat.le_refl _) _).alloc (by simp) _).alloc (by simp; omega) _
/-- two numbers and what is wrong -/
def pairV (p : Option (Int × Int)) : Value := match p with | some q => .tuple #[.agg #[.int .i64 q.1, .int .i64 q.2], .int .i64 0] | none => .tuple #[.agg #[.int .i64 0, .int .i64 0], .int .i64 17]
set_option maxRecDepth 100000 in
set_option maxHeartbeats 4000000 in
theorem turn_any (w : World) (a b c d : Int) (ha : isN a) (hb : isN b) (hc : isN c) (hd : isN d) :
    Calls Tryd.prog 61 #[.agg #[.int .i64 a, .int .i64 b], .agg #[.int .i64 c, .int .i64 d]] w fun e w' => e = .returned (pairV (trn a b c d)) ∧ Below w.heap.size w w' := by
  have HP := Lib.hid (fun W => rmul_any W a c ha hc)
  have HQ := Lib.hid (fun W => rmul_any W b d hb hd)
  have HR := Lib.hid (fun W => rmul_any W a d ha hd)
  have HS := Lib.hid (fun W => rmul_any W b c hb hc)
  have HT : Hid (trn a b c d = if isN (rnd (a * c)) ∧ isN (rnd (b * d)) ∧ isN (rnd (a * d)) ∧ isN (rnd (b * c)) ∧ isN (rnd (a * c) - rnd (b * d)) ∧ isN (rnd (a * d) + rnd (b * c)) then some (rnd (a * c) - rnd (b * d), rnd (a * d) + rnd (b * c)) else none) := Lib.hid rfl
  obtain ⟨P, h⟩ : ∃ P, rnd (a * c) = P := ⟨_, rfl⟩
  rw [h] at HP HT; clear h
  obtain ⟨Q, h⟩ : ∃ P, rnd (b * d) = P := ⟨_, rfl⟩
  rw [h] at HQ HT; clear h
  obtain ⟨R, h⟩ : ∃ P, rnd (a * d) = P := ⟨_, rfl⟩
  rw [h] at HR HT; clear h
  obtain ⟨S, h⟩ : ∃ P, rnd (b * c) = P := ⟨_, rfl⟩
  rw [h] at HS HT; clear h
  rw [HT.out]
  clear ha hb hc hd HT
  by_cases h0 : isN P
  · have o0 := over_yes h0
    rw [o0.1, o0.2] at HP
    clear o0
    by_cases h1 : isN Q
    · have o1 := over_yes h1
      rw [o1.1, o1.2] at HQ
      clear o1
      by_cases h2 : isN R
      · have o2 := over_yes h2
        rw [o2.1, o2.2] at HR
        clear o2
        by_cases h3 : isN S
        · have o3 := over_yes h3
          rw [o3.1, o3.2] at HS
          clear o3
          obtain ⟨p1, p2⟩ : -2147483648 ≤ P ∧ P ≤ 2147483647 := ⟨h0.1, h0.2⟩
          obtain ⟨q1, q2⟩ : -2147483648 ≤ Q ∧ Q ≤ 2147483647 := ⟨h1.1, h1.2⟩
          obtain ⟨r1, r2⟩ : -2147483648 ≤ R ∧ R ≤ 2147483647 := ⟨h2.1, h2.2⟩
          obtain ⟨s1, s2⟩ : -2147483648 ≤ S ∧ S ≤ 2147483647 := ⟨h3.1, h3.2⟩
          by_cases h4 : isN (P - Q)
          · have I4 := Lib.hid (isB_yes h4)
            by_cases h5 : isN (R + S)
            · have I5 := Lib.hid (isB_yes h5)
              rw [if_pos ⟨h0, h1, h2, h3, h4, h5⟩]
              clear h0 h1 h2 h3 h4 h5
              go_enter Tryd.func61, Tryd.ntmps61
              go_wp2_with fail
              refine (HP.out _).mono ?_
              rintro e w' ⟨rfl, rfl⟩
              go_wp2_with fail
              refine (HQ.out _).mono ?_
              rintro e w' ⟨rfl, rfl⟩
              go_wp2_with fail
              refine (HR.out _).mono ?_
              rintro e w' ⟨rfl, rfl⟩
              go_wp2_with fail
              refine (HS.out _).mono ?_
              rintro e w' ⟨rfl, rfl⟩
              go_wp2_with fail
              refine (is_any _ (P - Q)).mono ?_
              rintro e w' ⟨rfl, rfl⟩
              rw [I4.out]
              go_wp2_with fail
              refine (is_any _ (R + S)).mono ?_
              rintro e w' ⟨rfl, rfl⟩
              rw [I5.out]
              go_wp2
              exact bodyPost_ret (v := pairV (some (P - Q, R + S))) (results_two Tryd.results61 _ _ (w.heap.size + 1 + 1) 78 #[.int .i64 (P - Q), .int .i64 (R + S)] (0, 0) _ _ rfl rfl (top3 _ _ _ _ _) Tryd.underlying78 rfl size_pair) rfl ⟨rfl, below3 _ _ _ _⟩
            · have I5 := Lib.hid (isB_no h5)
              rw [if_neg (fun h => h5 h.2.2.2.2.2)]
              clear h0 h1 h2 h3 h4 h5
              go_enter Tryd.func61, Tryd.ntmps61
              go_wp2_with fail
              refine (HP.out _).mono ?_
              rintro e w' ⟨rfl, rfl⟩
              go_wp2_with fail
              refine (HQ.out _).mono ?_
              rintro e w' ⟨rfl, rfl⟩
              go_wp2_with fail
              refine (HR.out _).mono ?_
              rintro e w' ⟨rfl, rfl⟩
              go_wp2_with fail
              refine (HS.out _).mono ?_
              rintro e w' ⟨rfl, rfl⟩
              go_wp2_with fail
              refine (is_any _ (P - Q)).mono ?_
              rintro e w' ⟨rfl, rfl⟩
              rw [I4.out]
              go_wp2_with fail
              refine (is_any _ (R + S)).mono ?_
              rintro e w' ⟨rfl, rfl⟩
              rw [I5.out]
              go_wp2
              exact bodyPost_ret (v := pairV (none)) (results_two Tryd.results61 _ _ (w.heap.size + 1 + 1) 78 #[.int .i64 0, .int .i64 0] (0, 0) _ _ rfl rfl (top3 _ _ _ _ _) Tryd.underlying78 rfl size_pair) rfl ⟨rfl, below3 _ _ _ _⟩
          · have I4 := Lib.hid (isB_no h4)
            rw [if_neg (fun h => h4 h.2.2.2.2.1)]
            clear h0 h1 h2 h3 h4
            go_enter Tryd.func61, Tryd.ntmps61
            go_wp2_with fail
            refine (HP.out _).mono ?_
            rintro e w' ⟨rfl, rfl⟩
            go_wp2_with fail
            refine (HQ.out _).mono ?_
            rintro e w' ⟨rfl, rfl⟩
            go_wp2_with fail
            refine (HR.out _).mono ?_
            rintro e w' ⟨rfl, rfl⟩
            go_wp2_with fail
            refine (HS.out _).mono ?_
            rintro e w' ⟨rfl, rfl⟩
            go_wp2_with fail
            refine (is_any _ (P - Q)).mono ?_
            rintro e w' ⟨rfl, rfl⟩
            rw [I4.out]
            go_wp2
            exact bodyPost_ret (v := pairV (none)) (results_two Tryd.results61 _ _ (w.heap.size + 1 + 1) 78 #[.int .i64 0, .int .i64 0] (0, 0) _ _ rfl rfl (top3 _ _ _ _ _) Tryd.underlying78 rfl size_pair) rfl ⟨rfl, below3 _ _ _ _⟩
        · have o3 := over_no h3
          rw [o3.1, o3.2] at HS
          rw [if_neg (fun h => h3 h.2.2.2.1)]
          clear h0 h1 h2 h3 o3
          go_enter Tryd.func61, Tryd.ntmps61
          go_wp2_with fail
          refine (HP.out _).mono ?_
          rintro e w' ⟨rfl, rfl⟩
          go_wp2_with fail
          refine (HQ.out _).mono ?_
          rintro e w' ⟨rfl, rfl⟩
          go_wp2_with fail
          refine (HR.out _).mono ?_
          rintro e w' ⟨rfl, rfl⟩
          go_wp2_with fail
          refine (HS.out _).mono ?_
          rintro e w' ⟨rfl, rfl⟩
          go_wp2
          exact bodyPost_ret (v := pairV (none)) (results_two Tryd.results61 _ _ (w.heap.size + 1 + 1) 78 #[.int .i64 0, .int .i64 0] (0, 0) _ _ rfl rfl (top3 _ _ _ _ _) Tryd.underlying78 rfl size_pair) rfl ⟨rfl, below3 _ _ _ _⟩
      · have o2 := over_no h2
        rw [o2.1, o2.2] at HR
        rw [if_neg (fun h => h2 h.2.2.1)]
        obtain ⟨x3, e3⟩ : ∃ x, over S = x := ⟨_, rfl⟩
        obtain ⟨y3, f3⟩ : ∃ x, orNil S = x := ⟨_, rfl⟩
        rw [e3, f3] at HS
        clear e3 f3
        clear h0 h1 h2 o2
        go_enter Tryd.func61, Tryd.ntmps61
        go_wp2_with fail
        refine (HP.out _).mono ?_
        rintro e w' ⟨rfl, rfl⟩
        go_wp2_with fail
        refine (HQ.out _).mono ?_
        rintro e w' ⟨rfl, rfl⟩
        go_wp2_with fail
        refine (HR.out _).mono ?_
        rintro e w' ⟨rfl, rfl⟩
        go_wp2_with fail
        refine (HS.out _).mono ?_
        rintro e w' ⟨rfl, rfl⟩
        go_wp2
        exact bodyPost_ret (v := pairV (none)) (results_two Tryd.results61 _ _ (w.heap.size + 1 + 1) 78 #[.int .i64 0, .int .i64 0] (0, 0) _ _ rfl rfl (top3 _ _ _ _ _) Tryd.underlying78 rfl size_pair) rfl ⟨rfl, below3 _ _ _ _⟩
    · have o1 := over_no h1
      rw [o1.1, o1.2] at HQ
      rw [if_neg (fun h => h1 h.2.1)]
      obtain ⟨x2, e2⟩ : ∃ x, over R = x := ⟨_, rfl⟩
      obtain ⟨y2, f2⟩ : ∃ x, orNil R = x := ⟨_, rfl⟩
      rw [e2, f2] at HR
      clear e2 f2
      obtain ⟨x3, e3⟩ : ∃ x, over S = x := ⟨_, rfl⟩
      obtain ⟨y3, f3⟩ : ∃ x, orNil S = x := ⟨_, rfl⟩
      rw [e3, f3] at HS
      clear e3 f3
      clear h0 h1 o1
      go_enter Tryd.func61, Tryd.ntmps61
      go_wp2_with fail
      refine (HP.out _).mono ?_
      rintro e w' ⟨rfl, rfl⟩
      go_wp2_with fail
      refine (HQ.out _).mono ?_
      rintro e w' ⟨rfl, rfl⟩
      go_wp2_with fail
      refine (HR.out _).mono ?_
      rintro e w' ⟨rfl, rfl⟩
      go_wp2_with fail
      refine (HS.out _).mono ?_
      rintro e w' ⟨rfl, rfl⟩
      go_wp2
      exact bodyPost_ret (v := pairV (none)) (results_two Tryd.results61 _ _ (w.heap.size + 1 + 1) 78 #[.int .i64 0, .int .i64 0] (0, 0) _ _ rfl rfl (top3 _ _ _ _ _) Tryd.underlying78 rfl size_pair) rfl ⟨rfl, below3 _ _ _ _⟩
  · have o0 := over_no h0
    rw [o0.1, o0.2] at HP
    rw [if_neg (fun h => h0 h.1)]
    obtain ⟨x1, e1⟩ : ∃ x, over Q = x := ⟨_, rfl⟩
    obtain ⟨y1, f1⟩ : ∃ x, orNil Q = x := ⟨_, rfl⟩
    rw [e1, f1] at HQ
    clear e1 f1
    obtain ⟨x2, e2⟩ : ∃ x, over R = x := ⟨_, rfl⟩
    obtain ⟨y2, f2⟩ : ∃ x, orNil R = x := ⟨_, rfl⟩
    rw [e2, f2] at HR
    clear e2 f2
    obtain ⟨x3, e3⟩ : ∃ x, over S = x := ⟨_, rfl⟩
    obtain ⟨y3, f3⟩ : ∃ x, orNil S = x := ⟨_, rfl⟩
    rw [e3, f3] at HS
    clear e3 f3
    clear h0 o0
    go_enter Tryd.func61, Tryd.ntmps61
    go_wp2_with fail
    refine (HP.out _).mono ?_
    rintro e w' ⟨rfl, rfl⟩
    go_wp2_with fail
    refine (HQ.out _).mono ?_
    rintro e w' ⟨rfl, rfl⟩
    go_wp2_with fail
    refine (HR.out _).mono ?_
    rintro e w' ⟨rfl, rfl⟩
    go_wp2_with fail
    refine (HS.out _).mono ?_
    rintro e w' ⟨rfl, rfl⟩
    go_wp2
    exact bodyPost_ret (v := pairV (none)) (results_two Tryd.results61 _ _ (w.heap.size + 1 + 1) 78 #[.int .i64 0, .int .i64 0] (0, 0) _ _ rfl rfl (top3 _ _ _ _ _) Tryd.underlying78 rfl size_pair) rfl ⟨rfl, below3 _ _ _ _⟩
end Go.Proofs.YtchjijifmjbgoaaDoor.Tn
