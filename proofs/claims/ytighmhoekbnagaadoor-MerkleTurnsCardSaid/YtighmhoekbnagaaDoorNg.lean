import Derived.Test.YtighmhoekbnagaaDoorNf
namespace Go.Proofs.YtighmhoekbnagaaDoor
open Go.ChangeShapes Go.WideShapes Go.ChangeAt Go.RowKit

theorem take_snocD (l : List (List Int)) (k : Nat) (h : k < l.length) : l.take (k + 1) = l.take k ++ [l.getD k []] := by
  have e : l.getD k [] = l[k] := by simp [h]
  rw [e, List.take_succ_eq_append_getElem h]
set_option maxRecDepth 100000 in
set_option maxHeartbeats 2000000 in
theorem digests_any (w : World) (sp sq : Option Addr) (n m cp cq : Nat) (a b : List (List Int)) (hn : a.length = n) (hm : b.length = m) (ha : Digs w sp cp a) (hb : Digs w sq cq b) :
    Calls Tryd.prog 18 #[.slice sp n cp, .slice sq m cq] w (Told (decide (a = b)) w) := by
  have hnl : n ≤ 9223372036854775807 := by rw [← hn]; exact ha.len
  have hml : m ≤ 9223372036854775807 := by rw [← hm]; exact hb.len
  have HN := Lib.hid hn
  have HM := Lib.hid hm
  have HA := Lib.hid ha
  have HB := Lib.hid hb
  clear hn hm ha hb
  by_cases hne : n = m
  · have hd : ((n : Int) != (m : Int)) = false := by rw [hne]; simp
    subst hne
    go_enter Tryd.func18, Tryd.ntmps18
    go_wp2
    go_loopw [5] (fun i wr => ∃ k : Nat, k ≤ n ∧ i = .int .i64 k ∧ a.take k = b.take k ∧ ∃ q, wr = w.drewN q) (fun i _ => n - (intOf i).toNat)
    case atStart => exact ⟨0, by omega, rfl, rfl, 0, rfl⟩
    case round =>
      obtain ⟨k, hk, rfl, heq, q, rfl⟩ := hrel
      have HEq := Lib.hid heq
      clear heq
      by_cases hlt : k < n
      · have hdt : decide (k < n) = true := by simp; omega
        obtain ⟨c, o, rfl, hc1⟩ := HA.out.at_ k (by rw [HN.out]; exact hlt)
        obtain ⟨c', o', rfl, hc2⟩ := HB.out.at_ k (by rw [HM.out]; exact hlt)
        have hx32 : (a.getD k []).length = 32 := HA.out.all _ (getD_mem a k (by rw [HN.out]; exact hlt))
        have hy32 : (b.getD k []).length = 32 := HB.out.all _ (getD_mem b k (by rw [HM.out]; exact hlt))
        have HS1 := Lib.hid (take_snocD a k (by rw [HN.out]; exact hlt))
        have HS2 := Lib.hid (take_snocD b k (by rw [HM.out]; exact hlt))
        obtain ⟨x, hx⟩ : ∃ x, a.getD k [] = x := ⟨_, rfl⟩
        obtain ⟨y, hy⟩ : ∃ y, b.getD k [] = y := ⟨_, rfl⟩
        rw [hx] at hc1 HS1 hx32
        rw [hy] at hc2 HS2 hy32
        have HX := Lib.hid hx
        have HY := Lib.hid hy
        clear hx hy
        go_wp2
        have hr1 : ∀ W : World, (∃ q, W = w.drewN q) → W.rangeAt c (o + 32 * k) (x.map (Value.int .u8)) := by rintro _ ⟨q, rfl⟩; exact hc1
        have hr2 : ∀ W : World, (∃ q, W = w.drewN q) → W.rangeAt c' (o' + 32 * k) (y.map (Value.int .u8)) := by rintro _ ⟨q, rfl⟩; exact hc2
        have eR : ∀ W : World, (binOp .neq 24 (.agg (rowB x)) (.agg (rowB y))).run Tryd.prog W = .ok (.bool (!(x == y))) W := fun W => run_neq_row (P := Tryd.prog) 24 5 32 .u8 Tryd.underlying24 Tryd.underlying5 size5 x y hx32 hy32 W
        clear hc1 hc2
        refine wp_region_spec (C := fun W => ∃ q, W = w.drewN q) (Le := fun _ _ => True) 8 (fun j _ v => v = [.slice (some ⟨c, o, none⟩) n cp, .int .i64 k, .pointer (some ⟨c, o + 32 * k, none⟩), .agg (rowB x), .slice (some ⟨c', o', none⟩) n cq, .int .i64 k, .pointer (some ⟨c', o' + 32 * k, none⟩), .agg (rowB y)].getD j undef) (by kernel_rfl) (by kernel_rfl) ⟨q + 1, rfl⟩ (fun _ _ _ _ _ h => h) (fun j v => v = [.slice (some ⟨c, o, none⟩) n cp, .int .i64 k, .pointer (some ⟨c, o + 32 * k, none⟩), .agg (rowB x), .slice (some ⟨c', o', none⟩) n cq, .int .i64 k, .pointer (some ⟨c', o' + 32 * k, none⟩), .agg (rowB y)].getD j undef) (fun _ _ _ h => h) (fun j => [.slice (some ⟨c, o, none⟩) n cp, .int .i64 k, .pointer (some ⟨c, o + 32 * k, none⟩), .agg (rowB x), .slice (some ⟨c', o', none⟩) n cq, .int .i64 k, .pointer (some ⟨c', o' + 32 * k, none⟩), .agg (rowB y)].getD j undef) (fun _ => rfl) ?_ ?_
        · intro u hu
          have h0 : u 0 = (.slice (some ⟨c, o, none⟩) n cp) := hu 0
          have h1 : u 1 = (.int .i64 k) := hu 1
          have h2 : u 2 = (.pointer (some ⟨c, o + 32 * k, none⟩)) := hu 2
          have h3 : u 3 = (.agg (rowB x)) := hu 3
          have h4 : u 4 = (.slice (some ⟨c', o', none⟩) n cq) := hu 4
          have h5 : u 5 = (.int .i64 k) := hu 5
          have h6 : u 6 = (.pointer (some ⟨c', o' + 32 * k, none⟩)) := hu 6
          have h7 : u 7 = (.agg (rowB y)) := hu 7
          simp only [List.take_succ_cons, List.take_zero]
          refine spec_cons (fun W hC hd => ⟨by rfl, ?_⟩) ?_
          · exact gives_val _ W (rfl) ⟨hC, trivial, rfl⟩
          simp only [Act.put, List.setIfInBounds_toArray, List.set_cons_succ, List.set_cons_zero, Nat.reduceAdd]
          rw [h0]
          refine spec_cons (fun W hC hd => ⟨by rfl, ?_⟩) ?_
          · exact gives_val _ W (rfl) ⟨hC, trivial, rfl⟩
          simp only [Act.put, List.setIfInBounds_toArray, List.set_cons_succ, List.set_cons_zero, Nat.reduceAdd]
          rw [h1]
          refine spec_cons (fun W hC hd => ⟨by rfl, ?_⟩) ?_
          · exact gives_val _ W (exec_dig_at (.tmp 17) (.tmp 18) rfl c o n cp k rfl rfl hlt) ⟨hC, trivial, rfl⟩
          simp only [Act.put, List.setIfInBounds_toArray, List.set_cons_succ, List.set_cons_zero, Nat.reduceAdd]
          rw [h2]
          refine spec_cons (fun W hC hd => ⟨by rfl, ?_⟩) ?_
          · exact gives_val _ W (exec_load_mid (.tmp 19) rfl c (o + 32 * k) rfl x hx32 (hr1 W hC)) ⟨hC, trivial, rfl⟩
          simp only [Act.put, List.setIfInBounds_toArray, List.set_cons_succ, List.set_cons_zero, Nat.reduceAdd]
          rw [h3]
          refine spec_cons (fun W hC hd => ⟨by rfl, ?_⟩) ?_
          · exact gives_val _ W (rfl) ⟨hC, trivial, rfl⟩
          simp only [Act.put, List.setIfInBounds_toArray, List.set_cons_succ, List.set_cons_zero, Nat.reduceAdd]
          rw [h4]
          refine spec_cons (fun W hC hd => ⟨by rfl, ?_⟩) ?_
          · exact gives_val _ W (rfl) ⟨hC, trivial, rfl⟩
          simp only [Act.put, List.setIfInBounds_toArray, List.set_cons_succ, List.set_cons_zero, Nat.reduceAdd]
          rw [h5]
          refine spec_cons (fun W hC hd => ⟨by rfl, ?_⟩) ?_
          · exact gives_val _ W (exec_dig_at (.tmp 21) (.tmp 22) rfl c' o' n cq k rfl rfl hlt) ⟨hC, trivial, rfl⟩
          simp only [Act.put, List.setIfInBounds_toArray, List.set_cons_succ, List.set_cons_zero, Nat.reduceAdd]
          rw [h6]
          refine spec_cons (fun W hC hd => ⟨by rfl, ?_⟩) ?_
          · exact gives_val _ W (exec_load_mid (.tmp 23) rfl c' (o' + 32 * k) rfl y hy32 (hr2 W hC)) ⟨hC, trivial, rfl⟩
          simp only [Act.put, List.setIfInBounds_toArray, List.set_cons_succ, List.set_cons_zero, Nat.reduceAdd]
          rw [h7]
          exact spec_nil
        intro u W hu hC _
        have h0 : u 0 = (.slice (some ⟨c, o, none⟩) n cp) := hu 0
        have h1 : u 1 = (.int .i64 k) := hu 1
        have h2 : u 2 = (.pointer (some ⟨c, o + 32 * k, none⟩)) := hu 2
        have h3 : u 3 = (.agg (rowB x)) := hu 3
        have h4 : u 4 = (.slice (some ⟨c', o', none⟩) n cq) := hu 4
        have h5 : u 5 = (.int .i64 k) := hu 5
        have h6 : u 6 = (.pointer (some ⟨c', o' + 32 * k, none⟩)) := hu 6
        have h7 : u 7 = (.agg (rowB y)) := hu 7
        simp only [List.take_succ_cons, List.take_zero, List.drop_succ_cons, List.drop_zero, putAll, Act.put, List.setIfInBounds_toArray, List.set_cons_succ, List.set_cons_zero, Nat.reduceAdd]
        rw [h0, h1, h2, h3, h4, h5, h6, h7]
        clear hu h0 h1 h2 h3 h4 h5 h6 h7 hr1 hr2
        obtain ⟨q2, rfl⟩ := hC
        by_cases hxy : x = y
        · subst hxy
          have hd2 : (!(x == x)) = false := by simp
          go_wp2
          go_roundw
          case rel => exact ⟨k + 1, by omega, by go_num, by rw [HS1.out, HS2.out, HEq.out], _, rfl⟩
          case measure => simp [intOf]; omega
        · have hd2 : (!(x == y)) = true := by simpa using hxy
          have HNe : Hid (decide (a = b) = false) := by
            refine Lib.hid (decide_eq_false (fun e => hxy ?_))
            rw [← HX.out, ← HY.out, e]
          clear hxy
          go_wp2
          go_ret
          exact ⟨by rw [HNe.out]; rfl, _, rfl⟩
      · obtain rfl : k = n := by omega
        have hdf : decide (k < k) = false := by simp
        have HE : Hid (decide (a = b) = true) := by
          have := HEq.out
          rw [List.take_of_length_le (by rw [HN.out]; omega), List.take_of_length_le (by rw [HM.out]; omega)] at this
          exact Lib.hid (decide_eq_true this)
        go_wp2
        go_ret
        exact ⟨by rw [HE.out]; rfl, _, rfl⟩
  · have hd : ((n : Int) != (m : Int)) = true := by simp; omega
    have HNe : Hid (decide (a = b) = false) := Lib.hid (decide_eq_false (fun e => hne (by rw [← HN.out, ← HM.out, e])))
    clear hne
    go_enter Tryd.func18, Tryd.ntmps18
    go_wp2
    go_ret
    exact ⟨by rw [HNe.out]; rfl, 0, rfl⟩
end Go.Proofs.YtighmhoekbnagaaDoor
