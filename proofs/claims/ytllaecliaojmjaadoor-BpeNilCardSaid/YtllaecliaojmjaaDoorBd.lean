import Derived.Test.YtllaecliaojmjaaDoorBv
namespace Go.Proofs.YtllaecliaojmjaaDoor.Bp
set_option maxRecDepth 100000
open Go.ChangeShapes Go.WideShapes Go.ChangeAt Go.RowKit Go.Proofs.YtllaecliaojmjaaDoor.Tn
open Go.ChangeMaps (setBlock heap_setBlock_same heap_setBlock_other)

/-! ### addByte -/
def abX (g : Nat) (sv : Value) (x : Nat) : Nat → Option Value
  | 0 => some (.pointer (some ⟨g, 0, none⟩))
  | 1 => some (.pointer (some ⟨g, 0, none⟩))
  | 2 => some (.pointer (some ⟨g, 0, none⟩))
  | 3 => some (.pointer (some ⟨g, 0, none⟩))
  | 4 => some (sv)
  | 5 => some (.int .u8 (x : Int))
  | 7 => some (strV [(x : Int)])
  | 10 => some (.pointer (some ⟨g, 0, none⟩))
  | 11 => some (.pointer (some ⟨g, 0, none⟩))
  | _ => none
set_option maxHeartbeats 8000000 in
theorem addByte_any (w : World) (lo g m B : Nat) (al : List Int) (T : List (List Int)) (sv : Value) (x : Nat) (h : Gw lo g m B al [] T sv w) (hx : x < 256) (hT : T.length = al.length) (hl : al.length ≤ 99999) :
    Calls Tryd.prog 17 #[.pointer (some ⟨g, 0, none⟩), .int .u8 (x : Int)] w fun e w' => Below lo w w' ∧ (((x : Int) ∈ al ∧ e = .returned (.int .i64 15)) ∨ ((x : Int) ∉ al ∧ e = .returned (.int .i64 0) ∧ ∃ sv', Gw lo g m B (al ++ [(x : Int)]) [] (T ++ [[(x : Int)]]) sv' w')) := by
  have HGw := Lib.hid h
  have HX := Lib.hid hx
  have HTl : Hid (T.length ≤ 999999) := Lib.hid (by omega)
  have HTa := Lib.hid hT
  have HLl := Lib.hid hl
  have Hlo : Hid (∀ k, sv.ownBlock = some k → k < w.heap.size) := Lib.hid (fun k hk => (h.texts.lt k hk).2)
  have c1 := h.cr.c1 hx
  obtain ⟨z, hz⟩ : ∃ z, plc al x = z := ⟨_, rfl⟩
  rw [hz] at c1
  have HZ := Lib.hid hz
  clear h hT hl hz
  have dx : decide (x < 256) = true := by simpa using hx
  have dx2 : (x : Int) < 256 := by omega
  by_cases hm : (x : Int) ∈ al
  · have hz0 : (z == 0) = false := by
      have := HZ.out
      unfold plc at this
      rw [if_pos hm] at this
      simp
      omega
    clear hx
    go_enter Tryd.func17, Tryd.ntmps17
    go_wp2
    go_ret
    exact ⟨Below.refl _ _, Or.inl ⟨hm, rfl⟩⟩
  · have hz0 : (z == 0) = true := by
      have := HZ.out
      unfold plc at this
      rw [if_neg hm] at this
      simp [this.symm]
    have HM : Hid ((x : Int) ∉ al) := Lib.hid hm
    clear hx hm
    go_enter Tryd.func17, Tryd.ntmps17
    go_upto_region 3 with fail
    refine Tn.wp_region_spec_at (C := fun W => w.grownBy W sv.ownBlock) (Le := Le12 sv.ownBlock) (Pre := fun j W => j = 9 → Below w.heap.size w W) 12 (fun _ => (neP B w.heap.size (strV [(x : Int)]) (.int .u8 (x : Int)) (T.length + 1) ((T ++ [[(x : Int)]]).map strV) (abX g sv x))) (by kernel_rfl) (by kernel_rfl) ⟨rfl, rfl, rfl, Nat.le_refl _, fun _ _ _ => rfl⟩ (fun _ _ _ _ _ _ h => h) (fun _ j i W W' y hne hle h => neP_later Hlo.out hne hle h) (fun j i W W' hne hle hp e => (hp e).trans ((hle.2 (by omega)).mono (hp e).size)) (fun j _ => ⟨rfl, rfl, rfl, Nat.le_refl _, fun _ _ => rfl⟩) (fun ixx yy => ∀ z, abX g sv x ixx = some z → yy = z) (fun _ _ _ _ h => h.2.2.2) (fun ixx => (abX g sv x ixx).getD undef) (fun ixx z h => by simp [h]) ?_ ?_
    · intro u hu
      have h0 : u 0 = .pointer (some ⟨g, 0, none⟩) := hu 0 _ rfl
      have h1 : u 1 = .pointer (some ⟨g, 0, none⟩) := hu 1 _ rfl
      have h2 : u 2 = .pointer (some ⟨g, 0, none⟩) := hu 2 _ rfl
      have h3 : u 3 = .pointer (some ⟨g, 0, none⟩) := hu 3 _ rfl
      have h4 : u 4 = sv := hu 4 _ rfl
      have h5 : u 5 = .int .u8 (x : Int) := hu 5 _ rfl
      have h7 : u 7 = strV [(x : Int)] := hu 7 _ rfl
      have h10 : u 10 = .pointer (some ⟨g, 0, none⟩) := hu 10 _ rfl
      have h11 : u 11 = .pointer (some ⟨g, 0, none⟩) := hu 11 _ rfl
      simp only [List.take_succ_cons, List.take_zero]
      refine Tn.spec_cons (fun W hC hd => ⟨by rfl, ?_⟩) ?_
      · exact Tn.gives_val (.pointer (some ⟨g, 0, none⟩)) W (by rfl) ⟨hC, le_b (by decide) (Below.refl _ _), (fun h => absurd h (by decide)), (fun h => absurd h (by decide)), (fun h => absurd h (by decide)), fun z hz => by cases hz; rfl⟩
      simp only [Act.put, List.setIfInBounds_toArray, List.set_cons_succ, List.set_cons_zero, Nat.reduceAdd]
      rw [h0]
      refine Tn.spec_cons (fun W hC hd => ⟨by rfl, ?_⟩) ?_
      · exact Tn.gives_val (.pointer (some ⟨g, 0, none⟩)) W (by rfl) ⟨hC, le_b (by decide) (Below.refl _ _), (fun h => absurd h (by decide)), (fun h => absurd h (by decide)), (fun h => absurd h (by decide)), fun z hz => by cases hz; rfl⟩
      simp only [Act.put, List.setIfInBounds_toArray, List.set_cons_succ, List.set_cons_zero, Nat.reduceAdd]
      rw [h1]
      refine Tn.spec_cons (fun W hC hd => ⟨by rfl, ?_⟩) ?_
      · exact Tn.gives_val (.pointer (some ⟨g, 0, none⟩)) W (exec_nilc (.tmp 13) rfl g rfl) ⟨hC, le_b (by decide) (Below.refl _ _), (fun h => absurd h (by decide)), (fun h => absurd h (by decide)), (fun h => absurd h (by decide)), fun z hz => by cases hz; rfl⟩
      simp only [Act.put, List.setIfInBounds_toArray, List.set_cons_succ, List.set_cons_zero, Nat.reduceAdd]
      rw [h2]
      refine Tn.spec_cons (fun W hC hd => ⟨by rfl, ?_⟩) ?_
      · exact Tn.gives_val (.pointer (some ⟨g, 0, none⟩)) W (exec_cf0 (.tmp 14) rfl g rfl) ⟨hC, le_b (by decide) (Below.refl _ _), (fun h => absurd h (by decide)), (fun h => absurd h (by decide)), (fun h => absurd h (by decide)), fun z hz => by cases hz; rfl⟩
      simp only [Act.put, List.setIfInBounds_toArray, List.set_cons_succ, List.set_cons_zero, Nat.reduceAdd]
      rw [h3]
      refine Tn.spec_cons (fun W hC hd => ⟨by rfl, ?_⟩) ?_
      · exact Tn.gives_val (sv) W (exec_load1 33 (.tmp 15) rfl ⟨g, 0, none⟩ rfl _ (cell_grown hC HGw.out.cr.c0 (fun k hk => by have := (own_block HGw.out.texts hk).1; have := HGw.out.gB; omega)) _ Tryd.underlying33 rfl) ⟨hC, le_b (by decide) (Below.refl _ _), (fun h => absurd h (by decide)), (fun h => absurd h (by decide)), (fun h => absurd h (by decide)), fun z hz => by cases hz; rfl⟩
      simp only [Act.put, List.setIfInBounds_toArray, List.set_cons_succ, List.set_cons_zero, Nat.reduceAdd]
      rw [h4]
      refine Tn.spec_cons (fun W hC hd => ⟨by rfl, ?_⟩) ?_
      · exact Tn.gives_val (.int .u8 (x : Int)) W (by rfl) ⟨hC, le_b (by decide) (Below.refl _ _), (fun h => absurd h (by decide)), (fun h => absurd h (by decide)), (fun h => absurd h (by decide)), fun z hz => by cases hz; rfl⟩
      simp only [Act.put, List.setIfInBounds_toArray, List.set_cons_succ, List.set_cons_zero, Nat.reduceAdd]
      rw [h5]
      refine Tn.spec_cons (fun W hC hd => ⟨by rfl, ?_⟩) ?_
      · exact Tn.gives_val _ _ (exec_byte1 (.tmp 17) rfl (x : Int) rfl) ⟨grown_trans hC (grown_of ((Below.refl W.heap.size W).alloc (Nat.le_refl _) _) _), le_b (by decide) ((Below.refl W.heap.size W).alloc (Nat.le_refl _) _), (fun _ => OneV.made _ W 5 hC.size), (fun h => absurd h (by decide)), (fun h => absurd h (by decide)), fun z hz => by cases hz⟩
      simp only [Act.put, List.setIfInBounds_toArray, List.set_cons_succ, List.set_cons_zero, Nat.reduceAdd]
      refine Tn.spec_cons (fun W hC hd => ⟨by rfl, ?_⟩) ?_
      · obtain ⟨b9, e9, _, c9⟩ := (hd ⟨6, .data⟩ (by simp) rfl).1 rfl
        exact Tn.gives_val (strV [(x : Int)]) W (exec_str1 (.tmp 18) rfl b9 (x : Int) e9 c9) ⟨hC, le_b (by decide) (Below.refl _ _), (fun h => absurd h (by decide)), (fun h => absurd h (by decide)), (fun h => absurd h (by decide)), fun z hz => by cases hz; rfl⟩
      simp only [Act.put, List.setIfInBounds_toArray, List.set_cons_succ, List.set_cons_zero, Nat.reduceAdd]
      rw [h7]
      refine Tn.spec_cons (fun W hC hd => ⟨by rfl, ?_⟩) ?_
      · exact Tn.gives_val _ _ (exec_slstr (.tmp 19) rfl [(x : Int)] rfl) ⟨grown_trans hC (grown_of ((Below.refl W.heap.size W).alloc (Nat.le_refl _) _) _), le_b (by decide) ((Below.refl W.heap.size W).alloc (Nat.le_refl _) _), (fun h => absurd h (by decide)), (fun _ => OneV.made _ W 9 hC.size), (fun h => absurd h (by decide)), fun z hz => by cases hz⟩
      simp only [Act.put, List.setIfInBounds_toArray, List.set_cons_succ, List.set_cons_zero, Nat.reduceAdd]
      refine Tn.spec_cons_at (fun W hC hp hd => ⟨by rfl, ?_⟩) ?_
      · obtain ⟨b8, e8, hl8, c8⟩ := (hd ⟨8, .data⟩ (by simp) rfl).2.1 rfl
        have hown := HGw.out.texts.kept (row := none) (grown_of (hp rfl) none) (by cases sv.ownBlock <;> simp)
        exact gives_append_str (.tmp 16) (.tmp 20) rfl B sv T.length T [(x : Int)] rfl hown b8 e8 c8 HTl.out (Nat.le_trans HGw.out.big hC.size) (fun v' W' hown hg => ⟨grown_trans hC hg, le_g hg, (fun h => absurd h (by decide)), (fun h => absurd h (by decide)), (fun _ => hown), fun z hz => by cases hz⟩)
      simp only [Act.put, List.setIfInBounds_toArray, List.set_cons_succ, List.set_cons_zero, Nat.reduceAdd]
      refine Tn.spec_cons (fun W hC hd => ⟨by rfl, ?_⟩) ?_
      · exact Tn.gives_val (.pointer (some ⟨g, 0, none⟩)) W (exec_nilc (.tmp 12) rfl g rfl) ⟨hC, le_b (by decide) (Below.refl _ _), (fun h => absurd h (by decide)), (fun h => absurd h (by decide)), (fun h => absurd h (by decide)), fun z hz => by cases hz; rfl⟩
      simp only [Act.put, List.setIfInBounds_toArray, List.set_cons_succ, List.set_cons_zero, Nat.reduceAdd]
      rw [h10]
      refine Tn.spec_cons (fun W hC hd => ⟨by rfl, ?_⟩) ?_
      · exact Tn.gives_val (.pointer (some ⟨g, 0, none⟩)) W (exec_cf0 (.tmp 22) rfl g rfl) ⟨hC, le_b (by decide) (Below.refl _ _), (fun h => absurd h (by decide)), (fun h => absurd h (by decide)), (fun h => absurd h (by decide)), fun z hz => by cases hz; rfl⟩
      simp only [Act.put, List.setIfInBounds_toArray, List.set_cons_succ, List.set_cons_zero, Nat.reduceAdd]
      rw [h11]
      exact Tn.spec_nil
    · intro u W hu hC hP
      have h0 : u 0 = .pointer (some ⟨g, 0, none⟩) := hu 0 _ rfl
      have h1 : u 1 = .pointer (some ⟨g, 0, none⟩) := hu 1 _ rfl
      have h2 : u 2 = .pointer (some ⟨g, 0, none⟩) := hu 2 _ rfl
      have h3 : u 3 = .pointer (some ⟨g, 0, none⟩) := hu 3 _ rfl
      have h4 : u 4 = sv := hu 4 _ rfl
      have h5 : u 5 = .int .u8 (x : Int) := hu 5 _ rfl
      have h7 : u 7 = strV [(x : Int)] := hu 7 _ rfl
      have h10 : u 10 = .pointer (some ⟨g, 0, none⟩) := hu 10 _ rfl
      have h11 : u 11 = .pointer (some ⟨g, 0, none⟩) := hu 11 _ rfl
      obtain ⟨b6, e6, _⟩ := (hP 6 (by omega)).1 rfl
      obtain ⟨b8, e8, _⟩ := (hP 8 (by omega)).2.1 rfl
      have o9 := (hP 9 (by omega)).2.2.1 rfl
      obtain ⟨v9, hv9⟩ : ∃ v9, u 9 = v9 := ⟨_, rfl⟩
      rw [hv9] at o9
      simp only [List.take_succ_cons, List.take_zero, List.drop_succ_cons, List.drop_zero, Tn.putAll, Act.put, List.setIfInBounds_toArray, List.set_cons_succ, List.set_cons_zero, Nat.reduceAdd]
      rw [h0, h1, h2, h3, h4, h5, e6, h7, e8, hv9, h10, h11]
      have HO9 := Lib.hid o9
      have HG9 : Hid (w.grownBy W sv.ownBlock) := Lib.hid hC
      clear hu h0 h1 h2 h3 h4 h5 h7 h10 h11 e6 e8 hC hP o9 hv9
      have HN9 : Hid (Gw lo g m B al [] (T ++ [[(x : Int)]]) v9 (W.setCell ⟨g, 0, none⟩ v9)) := Lib.hid (HGw.out.push HG9.out HO9.out)
      have HB9 : Hid (Below lo w (W.setCell ⟨g, 0, none⟩ v9)) := Lib.hid (below_push HGw.out HG9.out)
      have HRw : Hid (W.heap[g]? = some (.cells (crow sv al m) 57 (0, 0))) := Lib.hid ((HG9.out.block _ (by have := HGw.out.big; have := HGw.out.gB; omega) (fun e => by have := (own_block HGw.out.texts e.symm).1; have := HGw.out.gB; omega)).trans HGw.out.cr.row)
      have q1 : W.cell? ⟨g, 0, none⟩ = some sv := by rw [cell_of_row _ _ _ _ _ _ HRw.out]; exact crow_zero _ _ _
      have q2 : W.frozen? ⟨g, 0, none⟩ = false := frozen_of_row _ _ _ _ _ HRw.out
      obtain ⟨s9, c9, rfl, _, _, _⟩ := Tn.Sl.all1 HO9.out
      clear c1
      go_upto_region 4 with fail
      refine gen_w (Q := fun w => Code.wp _ _ _ _ w) _ (fun W4 => Gw lo g m B al [] (T ++ [[(x : Int)]]) (.slice s9 (T.length + 1) c9) W4 ∧ Below lo w W4) ⟨HN9.out, HB9.out⟩ ?_
      rintro W4 ⟨hn4, hb4⟩
      have HN4 := Lib.hid hn4
      have HB4 := Lib.hid hb4
      have c0 := hn4.cr.c0
      have c3 := hn4.cr.c1 HX.out
      have q3 : W4.frozen? ⟨g, 1 + x, none⟩ = false := frozen_of_row _ _ _ _ _ hn4.cr.row
      clear hn4 hb4 q1 q2 HN9 HB9 HRw HO9 HG9
      go_still_tail 10, (by kernel_rfl)
      have hb1 : Below W4.heap.size W4 { W4 with drawn := W4.drawn + 1 } := ⟨rfl, rfl, rfl, Nat.le_refl _, fun _ _ => rfl⟩
      refine gen_w (Q := fun w => wpList _ _ _ _ _ w) _ (fun W5 => Gw lo g m B al [] (T ++ [[(x : Int)]]) (.slice s9 (T.length + 1) c9) W5 ∧ Below lo w W5) ⟨HN4.out.later hb1, HB4.out.trans (hb1.mono (by have := HN4.out.big; have := HN4.out.gB; have := HN4.out.lg; omega))⟩ ?_
      clear c0 c3 q3 hb1
      rintro W5 ⟨hn5, hb5⟩
      have HN5 := Lib.hid hn5
      have HB5 := Lib.hid hb5
      have c3 := hn5.cr.c1 HX.out
      have q3 : W5.frozen? ⟨g, 1 + x, none⟩ = false := frozen_of_row _ _ _ _ _ hn5.cr.row
      clear hn5 hb5
      go_wp2
      go_ret
      have hl : (((T.length : Int) + 1)) = (al.length : Int) + 1 := by rw [HTa.out]
      exact ⟨HB5.out.trans (below_place HN5.out), Or.inr ⟨HM.out, rfl, _, by have h9 := HN5.out.place HM.out HX.out; rw [← hl] at h9; exact h9⟩⟩
end Go.Proofs.YtllaecliaojmjaaDoor.Bp
