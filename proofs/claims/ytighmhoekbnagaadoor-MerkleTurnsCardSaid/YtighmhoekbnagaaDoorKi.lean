import Derived.Test.YtighmhoekbnagaaDoorLk
import Derived.Lib.SlBytesConst
import Derived.Lib.SmallJoins
namespace Go.Proofs.YtighmhoekbnagaaDoor
open Go.ChangeShapes Go.WideShapes Go.ChangeAt Go.RowKit

def exL : List (List Int) := [[97], [98], [99]]
theorem exL_root : rootD exL = nodeD (nodeD (leafD [97]) (leafD [98])) (leafD [99]) := by
  rw [rootD_split exL 1 (by decide) (by decide), show exL.take (2 ^ 1) = [[97], [98]] from rfl, show exL.drop (2 ^ 1) = [[99]] from rfl, rootD_one, rootD_split [[97], [98]] 0 (by decide) (by decide),
    show ([[97], [98]] : List (List Int)).take (2 ^ 0) = [[97]] from rfl, show ([[97], [98]] : List (List Int)).drop (2 ^ 0) = [[98]] from rfl, rootD_one, rootD_one]
theorem exL_proof : proofD 2 exL = [nodeD (leafD [97]) (leafD [98])] := by
  rw [proofD_wy exL 2 (by decide) (by decide), show exL.length = 3 from rfl, show wy 3 2 63 = [(1, 0)] by decide +kernel]
  simp only [List.map_cons, List.map_nil]
  rw [show seg exL 1 0 = [[97], [98]] from rfl, rootD_split [[97], [98]] 0 (by decide) (by decide),
    show ([[97], [98]] : List (List Int)).take (2 ^ 0) = [[97]] from rfl, show ([[97], [98]] : List (List Int)).drop (2 ^ 0) = [[98]] from rfl, rootD_one, rootD_one]
theorem ex_ne : leafD [97] ≠ leafD [98] := by
  unfold leafD
  decide +kernel
theorem exL_mild : Mild exL := ⟨by decide, by decide⟩
/-- a digest's own block -/
def Dg (W : World) (g : Nat) (d : List Int) : Prop := W.heap[g]? = some (.cells (rowB d) 24 (0, 0))
theorem Dg.below {W W' : World} {g : Nat} {d : List Int} (h : Dg W g d) (hb : Below W.heap.size W W') : Dg W' g d := (hb.block g (Array.getElem?_eq_some_iff.1 h).1).trans h
theorem Dg.made (W : World) (X : Array Value) (d : List Int) : Dg ((W.alloc (.cells X 24)).setRow W.heap.size (rowB d)) W.heap.size d := setRow_heap _ _ _ _ _ _ (heap_alloc_new _ _)
theorem Byt.lit (W : World) (x : Int) (fr : Nat × Nat) : Byt (W.alloc (.cells #[.int .u8 x] 5 fr)) (some ⟨W.heap.size, 0, none⟩) 1 [x] := Byt.new W [x] _ 5 fr rfl (by simp)
/-- a digest stored into a new block of its own -/
structure Stood (w : World) (ds : List (Nat × List Int)) (W : World) : Prop where
  below : Below w.heap.size w W
  all : ∀ x ∈ ds, Dg W x.1 x.2
theorem Stood.later {w W W' : World} {ds : List (Nat × List Int)} (h : Stood w ds W) (hb : Below W.heap.size W W') : Stood w ds W' := ⟨h.below.trans (hb.mono h.below.size), fun x hx => (h.all x hx).below hb⟩
theorem Stood.more {w W : World} {ds : List (Nat × List Int)} (h : Stood w ds W) (X : Array Value) (d : List Int) : Stood w ((W.heap.size, d) :: ds) ((W.alloc (.cells X 24)).setRow W.heap.size (rowB d)) := by
  have hb : Below W.heap.size W ((W.alloc (.cells X 24)).setRow W.heap.size (rowB d)) := below_setRow ((Below.refl _ _).alloc (Nat.le_refl _) _) (Nat.le_refl _) _
  refine ⟨h.below.trans (hb.mono h.below.size), fun x hx => ?_⟩
  rcases List.mem_cons.1 hx with rfl | hx
  · exact Dg.made W X d
  · exact (h.all x hx).below hb
theorem exL_pcs (W W' : World) (g0 g1 g2 g : Nat) (h0 : Byt W (some ⟨g0, 0, none⟩) 1 [97]) (h1 : Byt W (some ⟨g1, 0, none⟩) 1 [98]) (h2 : Byt W (some ⟨g2, 0, none⟩) 1 [99]) (hg : g = W.heap.size)
    (hW : W' = W.alloc (.cells #[.slice (some ⟨g0, 0, none⟩) 1 1, .slice (some ⟨g1, 0, none⟩) 1 1, .slice (some ⟨g2, 0, none⟩) 1 1] 28)) : Pcs W' (some ⟨g, 0, none⟩) 3 exL := by
  subst hg hW
  refine Pcs.new W [.slice (some ⟨g0, 0, none⟩) 1 1, .slice (some ⟨g1, 0, none⟩) 1 1, .slice (some ⟨g2, 0, none⟩) 1 1] exL _ 28 (0, 0) rfl rfl (by simp) (fun i v hv => ?_)
  rcases i with _ | _ | _ | i
  · simp at hv; subst hv; exact ⟨_, _, rfl, h0⟩
  · simp at hv; subst hv; exact ⟨_, _, rfl, h1⟩
  · simp at hv; subst hv; exact ⟨_, _, rfl, h2⟩
  · simp at hv
/-- what each operation of awake's last statement yields, where it is one value -/
def awX (A B D N R : List Int) (sp : Option Addr) (cap : Nat) : Nat → Option Value
  | 7 => some (.agg (rowB R)) | 8 => some (.agg (rowB A)) | 9 => some (.agg (rowB B)) | 10 => some (.agg (rowB N)) | 11 => some (.agg (rowB D)) | 12 => some (.agg (rowB R)) | 13 => some (.bool true) | 14 => some (.bool true)
  | 15 => some (.int .i64 0) | 16 => some (.bool true) | 17 => some (.bool true) | 18 => some (.bool true) | 19 => some (.slice sp 1 cap) | 20 => some (.int .i64 1) | 21 => some (.bool true) | 22 => some (.bool true) | 23 => some (.bool true)
  | 24 => some (.slice sp 1 cap) | 25 => some (.pointer sp) | 26 => some (.agg (rowB N)) | 27 => some (.agg (rowB A)) | 28 => some (.agg (rowB B)) | 29 => some (.agg (rowB N)) | 30 => some (.bool true) | 31 => some (.bool true) | 32 => some (.bool true)
  | 33 => some (.agg (rowB A)) | 34 => some (.agg (rowB B)) | 35 => some (.bool true) | 36 => some (.bool true) | _ => none
def awP (B0 : Nat) (X : Nat → Option Value) : Nat → World → Value → Prop
  | 0, w, v => Lit B0 97 w v
  | 1, w, v => Lit B0 97 w v
  | 2, w, v => Lit B0 98 w v
  | 3, w, v => Lit B0 98 w v
  | 4, w, v => Lit B0 99 w v
  | 5, w, v => Lit B0 99 w v
  | 6, w, v => ∃ g, v = .slice (some ⟨g, 0, none⟩) 3 3 ∧ Pcs w (some ⟨g, 0, none⟩) 3 exL
  | j + 7, _, v => ∀ x, X (j + 7) = some x → v = x
theorem awP_lk (B0 : Nat) (X : Nat → Option Value) : ∀ (j : Nat) (w w' : World) (v : Value), Lk w w' → awP B0 X j w v → awP B0 X j w' v
  | 0, _, _, _, h, hp => h.lit hp
  | 1, _, _, _, h, hp => h.lit hp
  | 2, _, _, _, h, hp => h.lit hp
  | 3, _, _, _, h, hp => h.lit hp
  | 4, _, _, _, h, hp => h.lit hp
  | 5, _, _, _, h, hp => h.lit hp
  | 6, _, _, _, h, ⟨g, e, hp⟩ => ⟨g, e, h.pcs hp⟩
  | _ + 7, _, _, _, _, hp => hp
theorem awP_val (B0 : Nat) (A B D N R : List Int) (sp : Option Addr) (cap : Nat) : ∀ (j : Nat) (w : World) (v : Value), awP B0 (awX A B D N R sp cap) j w v → ∀ x, awX A B D N R sp cap j = some x → v = x
  | 0, _, _, _, _, h => by cases h
  | 1, _, _, _, _, h => by cases h
  | 2, _, _, _, _, h => by cases h
  | 3, _, _, _, _, h => by cases h
  | 4, _, _, _, _, h => by cases h
  | 5, _, _, _, _, h => by cases h
  | 6, _, _, _, _, h => by cases h
  | j + 7, _, _, hp, x, h => hp x h
theorem lk_refl (w : World) : Lk w w := Lk.of_below (Below.refl _ _)
theorem exL_lits (v : World) : Byt (((v.alloc (.cells #[.int .u8 97] 5 (1, 2))).alloc (.cells #[.int .u8 98] 5 (1, 2))).alloc (.cells #[.int .u8 99] 5 (1, 2))) (some ⟨v.heap.size, 0, none⟩) 1 [97] ∧
    Byt (((v.alloc (.cells #[.int .u8 97] 5 (1, 2))).alloc (.cells #[.int .u8 98] 5 (1, 2))).alloc (.cells #[.int .u8 99] 5 (1, 2))) (some ⟨v.heap.size + 1, 0, none⟩) 1 [98] ∧
    Byt (((v.alloc (.cells #[.int .u8 97] 5 (1, 2))).alloc (.cells #[.int .u8 98] 5 (1, 2))).alloc (.cells #[.int .u8 99] 5 (1, 2))) (some ⟨v.heap.size + 1 + 1, 0, none⟩) 1 [99] := by
  have b := fun (W : World) (o : Obj) => (Below.refl W.heap.size W).alloc (Nat.le_refl _) o
  have h2 := Byt.lit (v.alloc (.cells #[.int .u8 97] 5 (1, 2))) 98 (1, 2)
  have h3 := Byt.lit ((v.alloc (.cells #[.int .u8 97] 5 (1, 2))).alloc (.cells #[.int .u8 98] 5 (1, 2))) 99 (1, 2)
  simp only [World.size_alloc] at h2 h3
  exact ⟨((Byt.lit v 97 (1, 2)).below (b _ _)).below (b _ _), h2.below (b _ _), h3⟩
set_option maxRecDepth 100000 in
set_option maxHeartbeats 4000000 in
theorem awake_any (w : World) (he : Env w) : Calls Tryd.prog 10 #[] w fun e w' => e = .returned (.bool true) ∧ Below w.heap.size w w' := by
  have HE := Lib.hid he
  clear he
  have kb := fun (w : World) (C : Array Value) (n c : Nat) => Lib.run_convert_bytes_const (P := Tryd.prog) w 28 5 C n c Tryd.underlying28 Tryd.underlying5
  go_enter Tryd.func10, Tryd.ntmps10
  have HS0 : Hid (Stood w [] w) := ⟨Below.refl _ _, fun x hx => by cases hx⟩
  go_wp2_with fail
  refine (leaf_any _ _ 1 1 [97] rfl (Byt.lit w 97 (1, 2)) (HE.out.below (HS0.out.below.alloc HS0.out.below.size _)) (by omega)).mono ?_
  rintro e w1 ⟨rfl, hb1⟩
  have HT1 := Lib.hid (HS0.out.later (((Below.refl _ _).alloc (Nat.le_refl _) _).trans (hb1.mono (by simp))))
  clear hb1
  have hl1 := leafD_length [97]
  obtain ⟨A, hA1⟩ : ∃ A, leafD [97] = A := ⟨_, rfl⟩
  rw [hA1] at hl1 ⊢
  have HA := Lib.hid hA1
  have HZ1 := Lib.hid (row_dig hl1)
  have HY1 := Lib.hid (row_dig0 hl1)
  have HX1 := Lib.hid (rowB_one A)
  have HL1 := Lib.hid hl1
  clear hA1 hl1
  go_upto_region 2 with (refine wpList_store_row rfl 24 (.tmp 1) (.tmp 8) rfl w1.heap.size (rowB A) rfl rfl 24 _ (heap_alloc_new _ _) HZ1.out HY1.out HX1.out ?_)
  refine gen_world (Q := fun w => Code.wp _ _ _ _ w) _ (Stood w [(w1.heap.size, A)]) (HT1.out.more _ A) ?_
  intro v1 hs1
  have HS1 := Lib.hid hs1
  clear hs1 HZ1 HY1 HX1 HT1
  obtain ⟨g1, hg1⟩ : ∃ g, w1.heap.size = g := ⟨_, rfl⟩
  rw [hg1] at HS1 ⊢
  clear hg1
  go_wp2_with fail
  refine (leaf_any _ _ 1 1 [98] rfl (Byt.lit v1 98 (1, 2)) (HE.out.below (HS1.out.below.alloc HS1.out.below.size _)) (by omega)).mono ?_
  rintro e w3 ⟨rfl, hb2⟩
  have HT2 := Lib.hid (HS1.out.later (((Below.refl _ _).alloc (Nat.le_refl _) _).trans (hb2.mono (by simp))))
  clear hb2
  have hl2 := leafD_length [98]
  obtain ⟨B, hA2⟩ : ∃ A, leafD [98] = A := ⟨_, rfl⟩
  rw [hA2] at hl2 ⊢
  have HB := Lib.hid hA2
  have HZ2 := Lib.hid (row_dig hl2)
  have HY2 := Lib.hid (row_dig0 hl2)
  have HX2 := Lib.hid (rowB_one B)
  have HL2 := Lib.hid hl2
  clear hA2 hl2
  go_upto_region 3 with (refine wpList_store_row rfl 24 (.tmp 2) (.tmp 11) rfl w3.heap.size (rowB B) rfl rfl 24 _ (heap_alloc_new _ _) HZ2.out HY2.out HX2.out ?_)
  refine gen_world (Q := fun w => Code.wp _ _ _ _ w) _ (Stood w [(w3.heap.size, B), (g1, A)]) (HT2.out.more _ B) ?_
  intro v2 hs2
  have HS2 := Lib.hid hs2
  clear hs2 HZ2 HY2 HX2 HT2
  obtain ⟨g2, hg2⟩ : ∃ g, w3.heap.size = g := ⟨_, rfl⟩
  rw [hg2] at HS2 ⊢
  clear hg2
  go_wp2_with fail
  refine (leaf_any _ _ 1 1 [99] rfl (Byt.lit v2 99 (1, 2)) (HE.out.below (HS2.out.below.alloc HS2.out.below.size _)) (by omega)).mono ?_
  rintro e w5 ⟨rfl, hb3⟩
  have HT3 := Lib.hid (HS2.out.later (((Below.refl _ _).alloc (Nat.le_refl _) _).trans (hb3.mono (by simp))))
  clear hb3
  have hl3 := leafD_length [99]
  obtain ⟨D, hA3⟩ : ∃ A, leafD [99] = A := ⟨_, rfl⟩
  rw [hA3] at hl3 ⊢
  have HD := Lib.hid hA3
  have HZ3 := Lib.hid (row_dig hl3)
  have HY3 := Lib.hid (row_dig0 hl3)
  have HX3 := Lib.hid (rowB_one D)
  have HL3 := Lib.hid hl3
  clear hA3 hl3
  go_upto_region 4 with (refine wpList_store_row rfl 24 (.tmp 3) (.tmp 14) rfl w5.heap.size (rowB D) rfl rfl 24 _ (heap_alloc_new _ _) HZ3.out HY3.out HX3.out ?_)
  refine gen_world (Q := fun w => Code.wp _ _ _ _ w) _ (Stood w [(w5.heap.size, D), (g2, B), (g1, A)]) (HT3.out.more _ D) ?_
  intro v3 hs3
  have HS3 := Lib.hid hs3
  clear hs3 HZ3 HY3 HX3 HT3
  obtain ⟨g3, hg3⟩ : ∃ g, w5.heap.size = g := ⟨_, rfl⟩
  rw [hg3] at HS3 ⊢
  clear hg3
  have k2 := Go.Joins.run_convert_bytes_const_at (P := Tryd.prog) (v3.alloc (.cells #[.int .u8 97] 5 (1, 2))) 28 5 #[.int .u8 98] 1 1 (v3.heap.size + 1) (by simp) Tryd.underlying28 Tryd.underlying5
  have k3 := Go.Joins.run_convert_bytes_const_at (P := Tryd.prog) ((v3.alloc (.cells #[.int .u8 97] 5 (1, 2))).alloc (.cells #[.int .u8 98] 5 (1, 2))) 28 5 #[.int .u8 99] 1 1 (v3.heap.size + 1 + 1) (by simp) Tryd.underlying28 Tryd.underlying5
  go_wp2_with fail
  clear k2 k3 kb
  refine gen_world (Q := fun w => Calls _ _ _ w _) _ (fun W => Below v3.heap.size v3 W ∧ Pcs W (some ⟨v3.heap.size + 1 + 1 + 1, 0, none⟩) 3 exL) ⟨?_, ?_⟩ ?_
  · exact ((((Below.refl _ _).alloc (Nat.le_refl _) _).alloc (by simp) _).alloc (by simp; omega) _).alloc (by simp; omega) _
  · obtain ⟨e1, e2, e3⟩ := exL_lits v3
    exact exL_pcs _ _ _ _ _ _ e1 e2 e3 (by simp) rfl
  rintro w7 ⟨hb7, hP7⟩
  refine (prove_yes 2 w7 _ 3 3 exL rfl hP7 (HE.out.below (HS3.out.later hb7).below) exL_mild (by omega)).mono ?_
  rintro e w8 ⟨sp8, cap8, rfl, hd8, hb8⟩
  rw [exL_proof] at hd8 ⊢
  have HS8 := Lib.hid ((HS3.out.later hb7).later hb8)
  rw [HA.out, HB.out] at hd8
  have HD8 := Lib.hid hd8
  clear hb7 hP7 hb8 hd8
  rw [show [nodeD (leafD [97]) (leafD [98])].length = 1 from rfl]
  go_upto_region 5 with fail
  have hr := exL_root
  rw [HA.out, HB.out, HD.out] at hr
  have hne : (A == B) = false := by rw [beq_eq_false_iff_ne, ← HA.out, ← HB.out]; exact ex_ne
  have HRt := Lib.hid (fun (W : World) (g : Nat) (hb : Below w8.heap.size w8 W) (hp : Pcs W (some ⟨g, 0, none⟩) 3 exL) => root_any W (some ⟨g, 0, none⟩) 3 3 exL rfl hp (HE.out.below (HS8.out.later hb).below) exL_mild)
  have HN1 := Lib.hid (fun (W : World) (hb : Below w8.heap.size w8 W) => node_any W A B HL1.out HL2.out (HE.out.below (HS8.out.later hb).below))
  have HN2 := Lib.hid (fun (W : World) (hb : Below w8.heap.size w8 W) => node_any W (nodeD A B) D (nodeD_length A B) HL3.out (HE.out.below (HS8.out.later hb).below))
  have dA : ∀ W, Below w8.heap.size w8 W → Dg W g1 A := fun W hb => (HS8.out.later hb).all (g1, A) (by simp)
  have dB : ∀ W, Below w8.heap.size w8 W → Dg W g2 B := fun W hb => (HS8.out.later hb).all (g2, B) (by simp)
  have dD : ∀ W, Below w8.heap.size w8 W → Dg W g3 D := fun W hb => (HS8.out.later hb).all (g3, D) (by simp)
  have hNl := nodeD_length A B
  have hRl := nodeD_length (nodeD A B) D
  have hD8 := HD8.out
  rw [hr] at HRt
  obtain ⟨N, hN⟩ : ∃ N, nodeD A B = N := ⟨_, rfl⟩
  rw [hN] at HRt HN1 HN2 hNl hRl hD8
  obtain ⟨R, hR⟩ : ∃ R, nodeD N D = R := ⟨_, rfl⟩
  rw [hR] at HRt HN2 hRl
  clear hr hN hR HD8
  obtain ⟨c, o, hsp, hrange⟩ := hD8.at_ 0 (by simp)
  simp only [List.getD_cons_zero, Nat.mul_zero, Nat.add_zero] at hrange
  have hrange' : ∀ W, Below w8.heap.size w8 W → W.rangeAt c o (N.map (Value.int .u8)) := fun W hb j v hv => (hb.cell (block_lt_of_cell (hrange j v hv))).trans (hrange j v hv)
  subst hsp
  clear hrange hD8
  have za := row_dig HL1.out
  have zb := row_dig HL2.out
  have zd := row_dig HL3.out
  refine wp_region_spec (C := fun W => Below w8.heap.size w8 W) (Le := Lk) 37 (awP w8.heap.size (awX A B D N R (some ⟨c, o, none⟩) cap8)) (by kernel_rfl) (by kernel_rfl) ⟨rfl, rfl, rfl, Nat.le_refl _, fun _ _ => rfl⟩ (awP_lk _ _)
    (fun j v => ∀ x, awX A B D N R (some ⟨c, o, none⟩) cap8 j = some x → v = x) (awP_val _ _ _ _ _ _ _ _) (fun j => (awX A B D N R (some ⟨c, o, none⟩) cap8 j).getD undef) (fun j x h => by simp [h]) ?_ ?_
  · intro u hu
    have h7 := hu 7 _ rfl
    have h8 := hu 8 _ rfl
    have h9 := hu 9 _ rfl
    have h10 := hu 10 _ rfl
    have h11 := hu 11 _ rfl
    have h12 := hu 12 _ rfl
    have h13 := hu 13 _ rfl
    have h14 := hu 14 _ rfl
    have h15 := hu 15 _ rfl
    have h16 := hu 16 _ rfl
    have h17 := hu 17 _ rfl
    have h18 := hu 18 _ rfl
    have h19 := hu 19 _ rfl
    have h20 := hu 20 _ rfl
    have h21 := hu 21 _ rfl
    have h22 := hu 22 _ rfl
    have h23 := hu 23 _ rfl
    have h24 := hu 24 _ rfl
    have h25 := hu 25 _ rfl
    have h26 := hu 26 _ rfl
    have h27 := hu 27 _ rfl
    have h28 := hu 28 _ rfl
    have h29 := hu 29 _ rfl
    have h30 := hu 30 _ rfl
    have h31 := hu 31 _ rfl
    have h32 := hu 32 _ rfl
    have h33 := hu 33 _ rfl
    have h34 := hu 34 _ rfl
    have h35 := hu 35 _ rfl
    have h36 := hu 36 _ rfl
    simp only [List.take_succ_cons, List.take_zero]
    refine spec_cons (fun W hC hd => ⟨by rfl, ?_⟩) ?_
    · exact gives_val _ _ (exec_lit 97 rfl) ⟨hC.alloc hC.size _, Lk.of_below ((Below.refl _ _).alloc (Nat.le_refl _) _), (show Lit _ _ _ _ from ⟨W.heap.size, (0, 0), hC.size, rfl, heap_alloc_new _ _⟩)⟩
    simp only [Act.put, List.setIfInBounds_toArray, List.set_cons_succ, List.set_cons_zero, Nat.reduceAdd]
    refine spec_cons (fun W hC hd => ⟨by rfl, ?_⟩) ?_
    · obtain ⟨g, fr, hg, e0, hrow⟩ := (show Lit w8.heap.size 97 W (u 0) from hd ⟨0, .data⟩ (by simp) rfl)
      exact gives_val _ _ (exec_conv (.tmp 26) rfl g _ _ fr 1 1 e0 hrow) ⟨hC.trans (freeze_below W _ _ hg), freeze_lk _ _ _, (show Lit _ _ _ _ from (freeze_lk _ _ _).lit ⟨g, fr, hg, rfl, hrow⟩)⟩
    simp only [Act.put, List.setIfInBounds_toArray, List.set_cons_succ, List.set_cons_zero, Nat.reduceAdd]
    refine spec_cons (fun W hC hd => ⟨by rfl, ?_⟩) ?_
    · exact gives_val _ _ (exec_lit 98 rfl) ⟨hC.alloc hC.size _, Lk.of_below ((Below.refl _ _).alloc (Nat.le_refl _) _), (show Lit _ _ _ _ from ⟨W.heap.size, (0, 0), hC.size, rfl, heap_alloc_new _ _⟩)⟩
    simp only [Act.put, List.setIfInBounds_toArray, List.set_cons_succ, List.set_cons_zero, Nat.reduceAdd]
    refine spec_cons (fun W hC hd => ⟨by rfl, ?_⟩) ?_
    · obtain ⟨g, fr, hg, e0, hrow⟩ := (show Lit w8.heap.size 98 W (u 2) from hd ⟨2, .data⟩ (by simp) rfl)
      exact gives_val _ _ (exec_conv (.tmp 28) rfl g _ _ fr 1 1 e0 hrow) ⟨hC.trans (freeze_below W _ _ hg), freeze_lk _ _ _, (show Lit _ _ _ _ from (freeze_lk _ _ _).lit ⟨g, fr, hg, rfl, hrow⟩)⟩
    simp only [Act.put, List.setIfInBounds_toArray, List.set_cons_succ, List.set_cons_zero, Nat.reduceAdd]
    refine spec_cons (fun W hC hd => ⟨by rfl, ?_⟩) ?_
    · exact gives_val _ _ (exec_lit 99 rfl) ⟨hC.alloc hC.size _, Lk.of_below ((Below.refl _ _).alloc (Nat.le_refl _) _), (show Lit _ _ _ _ from ⟨W.heap.size, (0, 0), hC.size, rfl, heap_alloc_new _ _⟩)⟩
    simp only [Act.put, List.setIfInBounds_toArray, List.set_cons_succ, List.set_cons_zero, Nat.reduceAdd]
    refine spec_cons (fun W hC hd => ⟨by rfl, ?_⟩) ?_
    · obtain ⟨g, fr, hg, e0, hrow⟩ := (show Lit w8.heap.size 99 W (u 4) from hd ⟨4, .data⟩ (by simp) rfl)
      exact gives_val _ _ (exec_conv (.tmp 30) rfl g _ _ fr 1 1 e0 hrow) ⟨hC.trans (freeze_below W _ _ hg), freeze_lk _ _ _, (show Lit _ _ _ _ from (freeze_lk _ _ _).lit ⟨g, fr, hg, rfl, hrow⟩)⟩
    simp only [Act.put, List.setIfInBounds_toArray, List.set_cons_succ, List.set_cons_zero, Nat.reduceAdd]
    refine spec_cons (fun W hC hd => ⟨by rfl, ?_⟩) ?_
    · have q1 := (show Lit w8.heap.size 97 W (u 1) from hd ⟨1, .data⟩ (by simp) rfl)
      have q3 := (show Lit w8.heap.size 98 W (u 3) from hd ⟨3, .data⟩ (by simp) rfl)
      have q5 := (show Lit w8.heap.size 99 W (u 5) from hd ⟨5, .data⟩ (by simp) rfl)
      obtain ⟨ga, fa, _, ea, _⟩ := id q1
      obtain ⟨gb, fb, _, eb, _⟩ := id q3
      obtain ⟨gc, fc, _, ec, _⟩ := id q5
      rw [ea] at q1
      rw [eb] at q3
      rw [ec] at q5
      exact gives_val _ _ (exec_three (.tmp 27) (.tmp 29) (.tmp 31) rfl _ _ _ _ _ _ _ _ _ ea eb ec) ⟨hC.alloc hC.size _, Lk.of_below ((Below.refl _ _).alloc (Nat.le_refl _) _), (show ∃ g, _ ∧ _ from ⟨W.heap.size, rfl, exL_pcs _ _ _ _ _ _ q1.byt q3.byt q5.byt rfl rfl⟩)⟩
    simp only [Act.put, List.setIfInBounds_toArray, List.set_cons_succ, List.set_cons_zero, Nat.reduceAdd]
    refine spec_cons (fun W hC hd => ⟨by rfl, ?_⟩) ?_
    · obtain ⟨g, e6, hp⟩ := (show ∃ g, u 6 = .slice (some ⟨g, 0, none⟩) 3 3 ∧ Pcs W (some ⟨g, 0, none⟩) 3 exL from hd ⟨6, .data⟩ (by simp) rfl)
      exact gives_call _ _ (exec_call1 13 (.tmp 32) #[22] _ rfl e6 (cfRoot _ _)) ((HRt.out W g hC hp).mono fun e W' h => ⟨_, h.1, hC.trans (h.2.mono hC.size), Lk.of_below h.2, fun x hx => by cases hx; rfl⟩)
    simp only [Act.put, List.setIfInBounds_toArray, List.set_cons_succ, List.set_cons_zero, Nat.reduceAdd]
    rw [h7]
    refine spec_cons (fun W hC hd => ⟨by rfl, ?_⟩) ?_
    · exact gives_val _ W (exec_load_row 24 (.tmp 1) rfl g1 rfl 24 (rowB A) (0, 0) _ (dA W hC) Tryd.underlying24 rfl za) ⟨hC, lk_refl W, fun x hx => by cases hx; rfl⟩
    simp only [Act.put, List.setIfInBounds_toArray, List.set_cons_succ, List.set_cons_zero, Nat.reduceAdd]
    rw [h8]
    refine spec_cons (fun W hC hd => ⟨by rfl, ?_⟩) ?_
    · exact gives_val _ W (exec_load_row 24 (.tmp 2) rfl g2 rfl 24 (rowB B) (0, 0) _ (dB W hC) Tryd.underlying24 rfl zb) ⟨hC, lk_refl W, fun x hx => by cases hx; rfl⟩
    simp only [Act.put, List.setIfInBounds_toArray, List.set_cons_succ, List.set_cons_zero, Nat.reduceAdd]
    rw [h9]
    refine spec_cons (fun W hC hd => ⟨by rfl, ?_⟩) ?_
    · exact gives_call _ _ (exec_call2 15 (.tmp 34) (.tmp 35) #[24, 24] _ _ rfl rfl rfl (cfNode _ _)) ((HN1.out W hC).mono fun e W' h => ⟨_, h.1, hC.trans (h.2.mono hC.size), Lk.of_below h.2, fun x hx => by cases hx; rfl⟩)
    simp only [Act.put, List.setIfInBounds_toArray, List.set_cons_succ, List.set_cons_zero, Nat.reduceAdd]
    rw [h10]
    refine spec_cons (fun W hC hd => ⟨by rfl, ?_⟩) ?_
    · exact gives_val _ W (exec_load_row 24 (.tmp 3) rfl g3 rfl 24 (rowB D) (0, 0) _ (dD W hC) Tryd.underlying24 rfl zd) ⟨hC, lk_refl W, fun x hx => by cases hx; rfl⟩
    simp only [Act.put, List.setIfInBounds_toArray, List.set_cons_succ, List.set_cons_zero, Nat.reduceAdd]
    rw [h11]
    refine spec_cons (fun W hC hd => ⟨by rfl, ?_⟩) ?_
    · exact gives_call _ _ (exec_call2 15 (.tmp 36) (.tmp 37) #[24, 24] _ _ rfl rfl rfl (cfNode _ _)) ((HN2.out W hC).mono fun e W' h => ⟨_, h.1, hC.trans (h.2.mono hC.size), Lk.of_below h.2, fun x hx => by cases hx; rfl⟩)
    simp only [Act.put, List.setIfInBounds_toArray, List.set_cons_succ, List.set_cons_zero, Nat.reduceAdd]
    rw [h12]
    refine spec_cons (fun W hC hd => ⟨by rfl, ?_⟩) ?_
    · exact gives_val _ W (exec_eqD (.tmp 33) (.tmp 38) rfl R R rfl rfl hRl hRl) ⟨hC, lk_refl W, fun x hx => by cases hx; simp⟩
    simp only [Act.put, List.setIfInBounds_toArray, List.set_cons_succ, List.set_cons_zero, Nat.reduceAdd]
    rw [h13]
    refine spec_cons (fun W hC hd => ⟨by rfl, ?_⟩) ?_
    · exact gives_val _ W (rfl) ⟨hC, lk_refl W, fun x hx => by cases hx; rfl⟩
    simp only [Act.put, List.setIfInBounds_toArray, List.set_cons_succ, List.set_cons_zero, Nat.reduceAdd]
    rw [h14]
    refine spec_cons (fun W hC hd => ⟨by rfl, ?_⟩) ?_
    · exact gives_val _ W (rfl) ⟨hC, lk_refl W, fun x hx => by cases hx; rfl⟩
    simp only [Act.put, List.setIfInBounds_toArray, List.set_cons_succ, List.set_cons_zero, Nat.reduceAdd]
    rw [h15]
    refine spec_cons (fun W hC hd => ⟨by rfl, ?_⟩) ?_
    · exact gives_val _ W (exec_binOp .eql 36 36 (.tmp 41) (.const (.int .i64 0)) rfl (.int .i64 0) (.int .i64 0) (.bool true) rfl rfl rfl (by simp [go_sem])) ⟨hC, lk_refl W, fun x hx => by cases hx; rfl⟩
    simp only [Act.put, List.setIfInBounds_toArray, List.set_cons_succ, List.set_cons_zero, Nat.reduceAdd]
    rw [h16]
    refine spec_cons (fun W hC hd => ⟨by rfl, ?_⟩) ?_
    · exact gives_val _ W (rfl) ⟨hC, lk_refl W, fun x hx => by cases hx; rfl⟩
    simp only [Act.put, List.setIfInBounds_toArray, List.set_cons_succ, List.set_cons_zero, Nat.reduceAdd]
    rw [h17]
    refine spec_cons (fun W hC hd => ⟨by rfl, ?_⟩) ?_
    · exact gives_val _ W (rfl) ⟨hC, lk_refl W, fun x hx => by cases hx; rfl⟩
    simp only [Act.put, List.setIfInBounds_toArray, List.set_cons_succ, List.set_cons_zero, Nat.reduceAdd]
    rw [h18]
    refine spec_cons (fun W hC hd => ⟨by rfl, ?_⟩) ?_
    · exact gives_val _ W (rfl) ⟨hC, lk_refl W, fun x hx => by cases hx; rfl⟩
    simp only [Act.put, List.setIfInBounds_toArray, List.set_cons_succ, List.set_cons_zero, Nat.reduceAdd]
    rw [h19]
    refine spec_cons (fun W hC hd => ⟨by rfl, ?_⟩) ?_
    · exact gives_val _ W (exec_lenD (.tmp 45) rfl _ 1 cap8 rfl) ⟨hC, lk_refl W, fun x hx => by cases hx; rfl⟩
    simp only [Act.put, List.setIfInBounds_toArray, List.set_cons_succ, List.set_cons_zero, Nat.reduceAdd]
    rw [h20]
    refine spec_cons (fun W hC hd => ⟨by rfl, ?_⟩) ?_
    · exact gives_val _ W (exec_binOp .eql 3 3 (.tmp 46) (.const (.int .i64 1)) rfl (.int .i64 1) (.int .i64 1) (.bool true) rfl rfl rfl (by simp [go_sem])) ⟨hC, lk_refl W, fun x hx => by cases hx; rfl⟩
    simp only [Act.put, List.setIfInBounds_toArray, List.set_cons_succ, List.set_cons_zero, Nat.reduceAdd]
    rw [h21]
    refine spec_cons (fun W hC hd => ⟨by rfl, ?_⟩) ?_
    · exact gives_val _ W (rfl) ⟨hC, lk_refl W, fun x hx => by cases hx; rfl⟩
    simp only [Act.put, List.setIfInBounds_toArray, List.set_cons_succ, List.set_cons_zero, Nat.reduceAdd]
    rw [h22]
    refine spec_cons (fun W hC hd => ⟨by rfl, ?_⟩) ?_
    · exact gives_val _ W (rfl) ⟨hC, lk_refl W, fun x hx => by cases hx; rfl⟩
    simp only [Act.put, List.setIfInBounds_toArray, List.set_cons_succ, List.set_cons_zero, Nat.reduceAdd]
    rw [h23]
    refine spec_cons (fun W hC hd => ⟨by rfl, ?_⟩) ?_
    · exact gives_val _ W (rfl) ⟨hC, lk_refl W, fun x hx => by cases hx; rfl⟩
    simp only [Act.put, List.setIfInBounds_toArray, List.set_cons_succ, List.set_cons_zero, Nat.reduceAdd]
    rw [h24]
    refine spec_cons (fun W hC hd => ⟨by rfl, ?_⟩) ?_
    · exact gives_val _ W (exec_dig_at (.tmp 50) (.const (.int .i64 0)) rfl c o 1 cap8 0 rfl rfl (by omega)) ⟨hC, lk_refl W, fun x hx => by cases hx; rfl⟩
    simp only [Act.put, List.setIfInBounds_toArray, List.set_cons_succ, List.set_cons_zero, Nat.reduceAdd]
    rw [h25]
    refine spec_cons (fun W hC hd => ⟨by rfl, ?_⟩) ?_
    · exact gives_val _ W (exec_load_mid (.tmp 51) rfl c o rfl N hNl (hrange' W hC)) ⟨hC, lk_refl W, fun x hx => by cases hx; rfl⟩
    simp only [Act.put, List.setIfInBounds_toArray, List.set_cons_succ, List.set_cons_zero, Nat.reduceAdd]
    rw [h26]
    refine spec_cons (fun W hC hd => ⟨by rfl, ?_⟩) ?_
    · exact gives_val _ W (exec_load_row 24 (.tmp 1) rfl g1 rfl 24 (rowB A) (0, 0) _ (dA W hC) Tryd.underlying24 rfl za) ⟨hC, lk_refl W, fun x hx => by cases hx; rfl⟩
    simp only [Act.put, List.setIfInBounds_toArray, List.set_cons_succ, List.set_cons_zero, Nat.reduceAdd]
    rw [h27]
    refine spec_cons (fun W hC hd => ⟨by rfl, ?_⟩) ?_
    · exact gives_val _ W (exec_load_row 24 (.tmp 2) rfl g2 rfl 24 (rowB B) (0, 0) _ (dB W hC) Tryd.underlying24 rfl zb) ⟨hC, lk_refl W, fun x hx => by cases hx; rfl⟩
    simp only [Act.put, List.setIfInBounds_toArray, List.set_cons_succ, List.set_cons_zero, Nat.reduceAdd]
    rw [h28]
    refine spec_cons (fun W hC hd => ⟨by rfl, ?_⟩) ?_
    · exact gives_call _ _ (exec_call2 15 (.tmp 53) (.tmp 54) #[24, 24] _ _ rfl rfl rfl (cfNode _ _)) ((HN1.out W hC).mono fun e W' h => ⟨_, h.1, hC.trans (h.2.mono hC.size), Lk.of_below h.2, fun x hx => by cases hx; rfl⟩)
    simp only [Act.put, List.setIfInBounds_toArray, List.set_cons_succ, List.set_cons_zero, Nat.reduceAdd]
    rw [h29]
    refine spec_cons (fun W hC hd => ⟨by rfl, ?_⟩) ?_
    · exact gives_val _ W (exec_eqD (.tmp 52) (.tmp 55) rfl N N rfl rfl hNl hNl) ⟨hC, lk_refl W, fun x hx => by cases hx; simp⟩
    simp only [Act.put, List.setIfInBounds_toArray, List.set_cons_succ, List.set_cons_zero, Nat.reduceAdd]
    rw [h30]
    refine spec_cons (fun W hC hd => ⟨by rfl, ?_⟩) ?_
    · exact gives_val _ W (rfl) ⟨hC, lk_refl W, fun x hx => by cases hx; rfl⟩
    simp only [Act.put, List.setIfInBounds_toArray, List.set_cons_succ, List.set_cons_zero, Nat.reduceAdd]
    rw [h31]
    refine spec_cons (fun W hC hd => ⟨by rfl, ?_⟩) ?_
    · exact gives_val _ W (rfl) ⟨hC, lk_refl W, fun x hx => by cases hx; rfl⟩
    simp only [Act.put, List.setIfInBounds_toArray, List.set_cons_succ, List.set_cons_zero, Nat.reduceAdd]
    rw [h32]
    refine spec_cons (fun W hC hd => ⟨by rfl, ?_⟩) ?_
    · exact gives_val _ W (exec_load_row 24 (.tmp 1) rfl g1 rfl 24 (rowB A) (0, 0) _ (dA W hC) Tryd.underlying24 rfl za) ⟨hC, lk_refl W, fun x hx => by cases hx; rfl⟩
    simp only [Act.put, List.setIfInBounds_toArray, List.set_cons_succ, List.set_cons_zero, Nat.reduceAdd]
    rw [h33]
    refine spec_cons (fun W hC hd => ⟨by rfl, ?_⟩) ?_
    · exact gives_val _ W (exec_load_row 24 (.tmp 2) rfl g2 rfl 24 (rowB B) (0, 0) _ (dB W hC) Tryd.underlying24 rfl zb) ⟨hC, lk_refl W, fun x hx => by cases hx; rfl⟩
    simp only [Act.put, List.setIfInBounds_toArray, List.set_cons_succ, List.set_cons_zero, Nat.reduceAdd]
    rw [h34]
    refine spec_cons (fun W hC hd => ⟨by rfl, ?_⟩) ?_
    · exact gives_val _ W (exec_neD (.tmp 59) (.tmp 60) rfl A B rfl rfl HL1.out HL2.out) ⟨hC, lk_refl W, fun x hx => by cases hx; simp [hne]⟩
    simp only [Act.put, List.setIfInBounds_toArray, List.set_cons_succ, List.set_cons_zero, Nat.reduceAdd]
    rw [h35]
    refine spec_cons (fun W hC hd => ⟨by rfl, ?_⟩) ?_
    · exact gives_val _ W (rfl) ⟨hC, lk_refl W, fun x hx => by cases hx; rfl⟩
    simp only [Act.put, List.setIfInBounds_toArray, List.set_cons_succ, List.set_cons_zero, Nat.reduceAdd]
    rw [h36]
    exact spec_nil
  · intro u W hu hC _
    have h36 := hu 36 _ rfl
    simp only [List.take_succ_cons, List.take_zero, List.drop_succ_cons, List.drop_zero, putAll, Act.put, List.setIfInBounds_toArray, List.set_cons_succ, List.set_cons_zero, Nat.reduceAdd]
    rw [h36]
    have HW := Lib.hid (HS8.out.later hC).below
    clear hu h36 hC HRt HN1 HN2 dA dB dD
    go_wp2
    go_ret
    exact ⟨rfl, HW.out⟩
end Go.Proofs.YtighmhoekbnagaaDoor
