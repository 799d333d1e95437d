/- Small models that a law makes: the walk of Made. -/
import Derived.Test.YtdffbjjiojheoaaZm
namespace Go.Proofs.Ytdffbjjiojheoaa.Mk
set_option maxRecDepth 100000
open Go.ChangeShapes Go.WideShapes Go.ChangeAt Go.RowKit Go.Shelf Go.Proofs.Ytdffbjjiojheoaa.Tn Go.Proofs.Ytdffbjjiojheoaa.Wg
set_option maxHeartbeats 16000000 in
theorem made_any (w : World) (s0 s1 s2 s3 s4 s5 : Int) (sf : Option Addr) (nf cf : Nat) (fl : List Int) (hfl : fl.length = nf) (hN : Nums w sf cf fl) :
    Calls Try.prog 25 #[.agg #[.int .i64 s0, .int .i64 s1, .int .i64 s2, .int .i64 s3, .int .i64 s4, .int .i64 s5, .slice sf nf cf]] w fun e W' => Below w.heap.size w W' ∧ (e = .returned (.tuple #[.agg #[.int .i64 0, .int .i64 0, .int .i64 0, .int .i64 0, .int .i64 0, .int .i64 0, .slice none 0 0, .slice none 0 0, .int .i64 0, .int .i64 0, .slice none 0 0, .slice none 0 0, .slice none 0 0, .int .i64 0, .int .i64 0, .slice none 0 0], .bool false]) ∨ ∃ v m, e = .returned (.tuple #[.agg (Wv.cells v), .bool (decide (m.chk = 0))]) ∧ WvOK W' v m ∧ Small m) := by
  have HMs := Lib.hid (Ms.made w s0 s1 s2 s3 s4 s5 sf nf cf)
  have HN := Lib.hid hN
  have HFl := Lib.hid hfl
  have hNm : nf ≤ 9223372036854775807 := by have := hN.len; omega
  clear hfl hN
  go_enter Try.func25, Try.ntmps25
  go_upto_region 2 with fail
  refine genM (Q := fun w => Code.wp _ _ _ _ w) _ (fun W => Ms w s0 s1 s2 s3 s4 s5 sf nf cf W) HMs.out ?_
  clear HMs
  rintro w1 k1
  obtain ⟨c6, c0, c1, c2, c3, c4, c5⟩ := k1.cells
  have HMs := Lib.hid k1
  have hbr := k1.br
  have HBl := Lib.hid k1.below
  clear k1
  obtain ⟨xb, hxb⟩ : ∃ x, w.heap.size = x := ⟨_, rfl⟩
  obtain ⟨sb, hsb⟩ : ∃ x, w.heap.size + 1 + 1 = x := ⟨_, rfl⟩
  rw [hsb] at c0 c1 c2 c3 c4 c5 ⊢
  obtain ⟨rb, hrb⟩ : ∃ x, w.heap.size + 1 = x := ⟨_, rfl⟩
  rw [hrb] at hbr ⊢
  have HR : Hid (w1.heap[rb]? = some (.cells #[.int .i64 0, .int .i64 0, .int .i64 0, .int .i64 0, .int .i64 0, .int .i64 0, .slice none 0 0, .slice none 0 0, .int .i64 0, .int .i64 0, .slice none 0 0, .slice none 0 0, .slice none 0 0, .int .i64 0, .int .i64 0, .slice none 0 0] 38 (0, 0))) := Lib.hid hbr
  have HRb : Hid (w.heap.size + 1 = rb) := Lib.hid hrb
  have HXb : Hid (w.heap.size = xb) := Lib.hid hxb
  have HSb : Hid (w.heap.size + 1 + 1 = sb) := Lib.hid hsb
  rw [hxb]
  rw [hxb] at c6
  clear hbr hxb hsb hrb
  refine wp_region_lit ?_
  refine wpList_vl rfl (.pointer (some ⟨sb, 0, none⟩)) (exec_arrM (.tmp 4) 0 (by decide) rfl sb rfl) ?_
  simp only [Act.put, List.setIfInBounds_toArray, List.set_cons_succ, List.set_cons_zero]
  refine wpList_vl rfl (.int .i64 s0) (Bp.exec_load1 3 (.tmp 14) rfl ⟨sb, 0, none⟩ rfl _ c0 _ Try.underlying3 rfl) ?_
  simp only [Act.put, List.setIfInBounds_toArray, List.set_cons_succ, List.set_cons_zero]
  obtain ⟨d16, hd16⟩ : ∃ b, decide (s0 < 2) = b := ⟨_, rfl⟩
  refine wpList_vl rfl (.bool d16) (exec_lssM (.tmp 15) (.const (.int .i64 2)) rfl _ _ _ rfl rfl hd16) ?_
  simp only [Act.put, List.setIfInBounds_toArray, List.set_cons_succ, List.set_cons_zero]
  refine wpList_vl rfl (.bool d16) (exec_movM (.tmp 16) rfl _ rfl) ?_
  simp only [Act.put, List.setIfInBounds_toArray, List.set_cons_succ, List.set_cons_zero]
  refine wpList_vlIf (!d16) (by cases d16 <;> rfl) (.pointer (some ⟨sb, 0, none⟩)) (fun hb => exec_arrM (.tmp 4) 0 (by decide) rfl sb rfl) ?_
  intro u18 hu18 hz18
  simp only [Act.put, List.setIfInBounds_toArray, List.set_cons_succ, List.set_cons_zero]
  refine wpList_vlIf (!d16) (by cases d16 <;> rfl) (.int .i64 s0) (fun hb => Bp.exec_load1 3 (.tmp 18) rfl ⟨sb, 0, none⟩ (by exact hu18 hb) _ c0 _ Try.underlying3 rfl) ?_
  intro u19 hu19 hz19
  simp only [Act.put, List.setIfInBounds_toArray, List.set_cons_succ, List.set_cons_zero]
  obtain ⟨d20, hd20⟩ : ∃ b, decide (12 < s0) = b := ⟨_, rfl⟩
  refine wpList_vlIf (!d16) (by cases d16 <;> rfl) (.bool d20) (fun hb => exec_gtrM (.tmp 19) (.const (.int .i64 12)) rfl _ _ _ (by exact hu19 hb) rfl hd20) ?_
  intro u20 hu20 hz20
  simp only [Act.put, List.setIfInBounds_toArray, List.set_cons_succ, List.set_cons_zero]
  obtain ⟨e1, he1⟩ : ∃ b, (d16 || d20) = b := ⟨_, rfl⟩
  refine wpList_vl rfl (.bool e1) ((he1 ▸ exec_orM (.tmp 17) (.const (.bool true)) (.tmp 20) rfl d16 d20 rfl rfl (fun hb0 => by exact hu20 (by simp [hb0])))) ?_
  simp only [Act.put, List.setIfInBounds_toArray, List.set_cons_succ, List.set_cons_zero]
  refine wpList_vl rfl (.bool e1) (exec_movM (.tmp 21) rfl _ rfl) ?_
  simp only [Act.put, List.setIfInBounds_toArray, List.set_cons_succ, List.set_cons_zero]
  refine wpList_vlIf (!e1) (by cases e1 <;> rfl) (.pointer (some ⟨sb, 1, none⟩)) (fun hb => exec_arrM (.tmp 4) 1 (by decide) rfl sb rfl) ?_
  intro u23 hu23 hz23
  simp only [Act.put, List.setIfInBounds_toArray, List.set_cons_succ, List.set_cons_zero]
  refine wpList_vlIf (!e1) (by cases e1 <;> rfl) (.int .i64 s1) (fun hb => Bp.exec_load1 3 (.tmp 23) rfl ⟨sb, 1, none⟩ (by exact hu23 hb) _ c1 _ Try.underlying3 rfl) ?_
  intro u24 hu24 hz24
  simp only [Act.put, List.setIfInBounds_toArray, List.set_cons_succ, List.set_cons_zero]
  obtain ⟨d25, hd25⟩ : ∃ b, decide (s1 ≠ 2) = b := ⟨_, rfl⟩
  refine wpList_vlIf (!e1) (by cases e1 <;> rfl) (.bool d25) (fun hb => exec_neqM (.tmp 24) (.const (.int .i64 2)) rfl _ _ _ (by exact hu24 hb) rfl hd25) ?_
  intro u25 hu25 hz25
  simp only [Act.put, List.setIfInBounds_toArray, List.set_cons_succ, List.set_cons_zero]
  refine wpList_vlIf (!e1) (by cases e1 <;> rfl) (.bool d25) (fun hb => exec_movM (.tmp 25) rfl _ (by exact hu25 hb)) ?_
  intro u26 hu26 hz26
  simp only [Act.put, List.setIfInBounds_toArray, List.set_cons_succ, List.set_cons_zero]
  refine wpList_vlIf ((!e1) && d25) (by
    cases hE : e1 with
    | true => rw [hz26 (by simp [hE])]; rfl
    | false => rw [hu26 (by simp [hE])]; cases d25 <;> rfl) (.pointer (some ⟨sb, 1, none⟩)) (fun hb => exec_arrM (.tmp 4) 1 (by decide) rfl sb rfl) ?_
  intro u27 hu27 hz27
  simp only [Act.put, List.setIfInBounds_toArray, List.set_cons_succ, List.set_cons_zero]
  refine wpList_vlIf ((!e1) && d25) (by
    cases hE : e1 with
    | true => rw [hz26 (by simp [hE])]; rfl
    | false => rw [hu26 (by simp [hE])]; cases d25 <;> rfl) (.int .i64 s1) (fun hb => Bp.exec_load1 3 (.tmp 27) rfl ⟨sb, 1, none⟩ (by exact hu27 hb) _ c1 _ Try.underlying3 rfl) ?_
  intro u28 hu28 hz28
  simp only [Act.put, List.setIfInBounds_toArray, List.set_cons_succ, List.set_cons_zero]
  obtain ⟨d29, hd29⟩ : ∃ b, decide (s1 ≠ 4) = b := ⟨_, rfl⟩
  refine wpList_vlIf ((!e1) && d25) (by
    cases hE : e1 with
    | true => rw [hz26 (by simp [hE])]; rfl
    | false => rw [hu26 (by simp [hE])]; cases d25 <;> rfl) (.bool d29) (fun hb => exec_neqM (.tmp 28) (.const (.int .i64 4)) rfl _ _ _ (by exact hu28 hb) rfl hd29) ?_
  intro u29 hu29 hz29
  simp only [Act.put, List.setIfInBounds_toArray, List.set_cons_succ, List.set_cons_zero]
  obtain ⟨e2, he2⟩ : ∃ b, (d25 && d29) = b := ⟨_, rfl⟩
  refine wpList_vlIf (!e1) (by cases e1 <;> rfl) (.bool e2) (fun hb => (he2 ▸ exec_andM (.tmp 26) (.tmp 29) (.const (.bool false)) rfl d25 d29 (by exact hu26 hb) (fun hb0 => by exact hu29 (by simp [hb0]; simpa using hb)) rfl)) ?_
  intro u30 hu30 hz30
  simp only [Act.put, List.setIfInBounds_toArray, List.set_cons_succ, List.set_cons_zero]
  obtain ⟨e3, he3⟩ : ∃ b, (e1 || e2) = b := ⟨_, rfl⟩
  refine wpList_vl rfl (.bool e3) ((he3 ▸ exec_orM (.tmp 22) (.const (.bool true)) (.tmp 30) rfl e1 e2 rfl rfl (fun hb0 => by exact hu30 (by simp [hb0])))) ?_
  simp only [Act.put, List.setIfInBounds_toArray, List.set_cons_succ, List.set_cons_zero]
  refine wpList_vl rfl (.bool e3) (exec_movM (.tmp 31) rfl _ rfl) ?_
  simp only [Act.put, List.setIfInBounds_toArray, List.set_cons_succ, List.set_cons_zero]
  refine wpList_vlIf (!e3) (by cases e3 <;> rfl) (.pointer (some ⟨sb, 2, none⟩)) (fun hb => exec_arrM (.tmp 4) 2 (by decide) rfl sb rfl) ?_
  intro u33 hu33 hz33
  simp only [Act.put, List.setIfInBounds_toArray, List.set_cons_succ, List.set_cons_zero]
  refine wpList_vlIf (!e3) (by cases e3 <;> rfl) (.int .i64 s2) (fun hb => Bp.exec_load1 3 (.tmp 33) rfl ⟨sb, 2, none⟩ (by exact hu33 hb) _ c2 _ Try.underlying3 rfl) ?_
  intro u34 hu34 hz34
  simp only [Act.put, List.setIfInBounds_toArray, List.set_cons_succ, List.set_cons_zero]
  obtain ⟨d35, hd35⟩ : ∃ b, decide (s2 < 1) = b := ⟨_, rfl⟩
  refine wpList_vlIf (!e3) (by cases e3 <;> rfl) (.bool d35) (fun hb => exec_lssM (.tmp 34) (.const (.int .i64 1)) rfl _ _ _ (by exact hu34 hb) rfl hd35) ?_
  intro u35 hu35 hz35
  simp only [Act.put, List.setIfInBounds_toArray, List.set_cons_succ, List.set_cons_zero]
  obtain ⟨e4, he4⟩ : ∃ b, (e3 || d35) = b := ⟨_, rfl⟩
  refine wpList_vl rfl (.bool e4) ((he4 ▸ exec_orM (.tmp 32) (.const (.bool true)) (.tmp 35) rfl e3 d35 rfl rfl (fun hb0 => by exact hu35 (by simp [hb0])))) ?_
  simp only [Act.put, List.setIfInBounds_toArray, List.set_cons_succ, List.set_cons_zero]
  refine wpList_vl rfl (.bool e4) (exec_movM (.tmp 36) rfl _ rfl) ?_
  simp only [Act.put, List.setIfInBounds_toArray, List.set_cons_succ, List.set_cons_zero]
  refine wpList_vlIf (!e4) (by cases e4 <;> rfl) (.pointer (some ⟨sb, 2, none⟩)) (fun hb => exec_arrM (.tmp 4) 2 (by decide) rfl sb rfl) ?_
  intro u38 hu38 hz38
  simp only [Act.put, List.setIfInBounds_toArray, List.set_cons_succ, List.set_cons_zero]
  refine wpList_vlIf (!e4) (by cases e4 <;> rfl) (.int .i64 s2) (fun hb => Bp.exec_load1 3 (.tmp 38) rfl ⟨sb, 2, none⟩ (by exact hu38 hb) _ c2 _ Try.underlying3 rfl) ?_
  intro u39 hu39 hz39
  simp only [Act.put, List.setIfInBounds_toArray, List.set_cons_succ, List.set_cons_zero]
  obtain ⟨d40, hd40⟩ : ∃ b, decide (2 < s2) = b := ⟨_, rfl⟩
  refine wpList_vlIf (!e4) (by cases e4 <;> rfl) (.bool d40) (fun hb => exec_gtrM (.tmp 39) (.const (.int .i64 2)) rfl _ _ _ (by exact hu39 hb) rfl hd40) ?_
  intro u40 hu40 hz40
  simp only [Act.put, List.setIfInBounds_toArray, List.set_cons_succ, List.set_cons_zero]
  obtain ⟨e5, he5⟩ : ∃ b, (e4 || d40) = b := ⟨_, rfl⟩
  refine wpList_vl rfl (.bool e5) ((he5 ▸ exec_orM (.tmp 37) (.const (.bool true)) (.tmp 40) rfl e4 d40 rfl rfl (fun hb0 => by exact hu40 (by simp [hb0])))) ?_
  simp only [Act.put, List.setIfInBounds_toArray, List.set_cons_succ, List.set_cons_zero]
  refine wpList_vl rfl (.bool e5) (exec_movM (.tmp 41) rfl _ rfl) ?_
  simp only [Act.put, List.setIfInBounds_toArray, List.set_cons_succ, List.set_cons_zero]
  have hs2 : (!e5) = true → 1 ≤ s2 ∧ s2 ≤ 2 := fun hb => by
    have h1 : e5 = false := by simpa using hb
    rw [← he5] at h1
    simp only [Bool.or_eq_false_iff] at h1
    have h2 := h1.2
    have h3 := h1.1
    rw [← he4] at h3
    simp only [Bool.or_eq_false_iff] at h3
    have h4 := h3.2
    rw [← hd40] at h2
    rw [← hd35] at h4
    simp only [decide_eq_false_iff_not] at h2 h4
    omega
  have hmul : (!e5) = true → IntKind.i64.wrap (2 * s2) = 2 * s2 := fun hb => IntWalk.i64_in _ (by have := hs2 hb; omega)
  have hrem : (!e5) = true → (2 * s2) ≠ 0 := fun hb => by have := hs2 hb; omega
  refine wpList_vlIf (!e5) (by cases e5 <;> rfl) (.pointer (some ⟨sb, 1, none⟩)) (fun hb => exec_arrM (.tmp 4) 1 (by decide) rfl sb rfl) ?_
  intro u43 hu43 hz43
  simp only [Act.put, List.setIfInBounds_toArray, List.set_cons_succ, List.set_cons_zero]
  refine wpList_vlIf (!e5) (by cases e5 <;> rfl) (.int .i64 s1) (fun hb => Bp.exec_load1 3 (.tmp 43) rfl ⟨sb, 1, none⟩ (by exact hu43 hb) _ c1 _ Try.underlying3 rfl) ?_
  intro u44 hu44 hz44
  simp only [Act.put, List.setIfInBounds_toArray, List.set_cons_succ, List.set_cons_zero]
  refine wpList_vlIf (!e5) (by cases e5 <;> rfl) (.pointer (some ⟨sb, 2, none⟩)) (fun hb => exec_arrM (.tmp 4) 2 (by decide) rfl sb rfl) ?_
  intro u45 hu45 hz45
  simp only [Act.put, List.setIfInBounds_toArray, List.set_cons_succ, List.set_cons_zero]
  refine wpList_vlIf (!e5) (by cases e5 <;> rfl) (.int .i64 s2) (fun hb => Bp.exec_load1 3 (.tmp 45) rfl ⟨sb, 2, none⟩ (by exact hu45 hb) _ c2 _ Try.underlying3 rfl) ?_
  intro u46 hu46 hz46
  simp only [Act.put, List.setIfInBounds_toArray, List.set_cons_succ, List.set_cons_zero]
  refine wpList_vlIf (!e5) (by cases e5 <;> rfl) (.int .i64 (2 * s2)) (fun hb => exec_mulM (.const (.int .i64 2)) (.tmp 46) rfl _ _ _ rfl (by exact hu46 hb) (hmul hb)) ?_
  intro u47 hu47 hz47
  simp only [Act.put, List.setIfInBounds_toArray, List.set_cons_succ, List.set_cons_zero]
  refine wpList_vlIf (!e5) (by cases e5 <;> rfl) (.int .i64 (s1.tmod (2 * s2))) (fun hb => exec_remM (.tmp 44) (.tmp 47) rfl _ _ _ (by exact hu44 hb) (by exact hu47 hb) (hrem hb) rfl) ?_
  intro u48 hu48 hz48
  simp only [Act.put, List.setIfInBounds_toArray, List.set_cons_succ, List.set_cons_zero]
  obtain ⟨d49, hd49⟩ : ∃ b, decide ((s1.tmod (2 * s2)) ≠ 0) = b := ⟨_, rfl⟩
  refine wpList_vlIf (!e5) (by cases e5 <;> rfl) (.bool d49) (fun hb => exec_neqM (.tmp 48) (.const (.int .i64 0)) rfl _ _ _ (by exact hu48 hb) rfl hd49) ?_
  intro u49 hu49 hz49
  simp only [Act.put, List.setIfInBounds_toArray, List.set_cons_succ, List.set_cons_zero]
  obtain ⟨e6, he6⟩ : ∃ b, (e5 || d49) = b := ⟨_, rfl⟩
  refine wpList_vl rfl (.bool e6) ((he6 ▸ exec_orM (.tmp 42) (.const (.bool true)) (.tmp 49) rfl e5 d49 rfl rfl (fun hb0 => by exact hu49 (by simp [hb0])))) ?_
  simp only [Act.put, List.setIfInBounds_toArray, List.set_cons_succ, List.set_cons_zero]
  refine wpList_vl rfl (.bool e6) (exec_movM (.tmp 50) rfl _ rfl) ?_
  simp only [Act.put, List.setIfInBounds_toArray, List.set_cons_succ, List.set_cons_zero]
  refine wpList_vlIf (!e6) (by cases e6 <;> rfl) (.pointer (some ⟨sb, 3, none⟩)) (fun hb => exec_arrM (.tmp 4) 3 (by decide) rfl sb rfl) ?_
  intro u52 hu52 hz52
  simp only [Act.put, List.setIfInBounds_toArray, List.set_cons_succ, List.set_cons_zero]
  refine wpList_vlIf (!e6) (by cases e6 <;> rfl) (.int .i64 s3) (fun hb => Bp.exec_load1 3 (.tmp 52) rfl ⟨sb, 3, none⟩ (by exact hu52 hb) _ c3 _ Try.underlying3 rfl) ?_
  intro u53 hu53 hz53
  simp only [Act.put, List.setIfInBounds_toArray, List.set_cons_succ, List.set_cons_zero]
  obtain ⟨d54, hd54⟩ : ∃ b, decide (s3 < 1) = b := ⟨_, rfl⟩
  refine wpList_vlIf (!e6) (by cases e6 <;> rfl) (.bool d54) (fun hb => exec_lssM (.tmp 53) (.const (.int .i64 1)) rfl _ _ _ (by exact hu53 hb) rfl hd54) ?_
  intro u54 hu54 hz54
  simp only [Act.put, List.setIfInBounds_toArray, List.set_cons_succ, List.set_cons_zero]
  obtain ⟨e7, he7⟩ : ∃ b, (e6 || d54) = b := ⟨_, rfl⟩
  refine wpList_vl rfl (.bool e7) ((he7 ▸ exec_orM (.tmp 51) (.const (.bool true)) (.tmp 54) rfl e6 d54 rfl rfl (fun hb0 => by exact hu54 (by simp [hb0])))) ?_
  simp only [Act.put, List.setIfInBounds_toArray, List.set_cons_succ, List.set_cons_zero]
  refine wpList_vl rfl (.bool e7) (exec_movM (.tmp 55) rfl _ rfl) ?_
  simp only [Act.put, List.setIfInBounds_toArray, List.set_cons_succ, List.set_cons_zero]
  refine wpList_vlIf (!e7) (by cases e7 <;> rfl) (.pointer (some ⟨sb, 3, none⟩)) (fun hb => exec_arrM (.tmp 4) 3 (by decide) rfl sb rfl) ?_
  intro u57 hu57 hz57
  simp only [Act.put, List.setIfInBounds_toArray, List.set_cons_succ, List.set_cons_zero]
  refine wpList_vlIf (!e7) (by cases e7 <;> rfl) (.int .i64 s3) (fun hb => Bp.exec_load1 3 (.tmp 57) rfl ⟨sb, 3, none⟩ (by exact hu57 hb) _ c3 _ Try.underlying3 rfl) ?_
  intro u58 hu58 hz58
  simp only [Act.put, List.setIfInBounds_toArray, List.set_cons_succ, List.set_cons_zero]
  obtain ⟨d59, hd59⟩ : ∃ b, decide (2 < s3) = b := ⟨_, rfl⟩
  refine wpList_vlIf (!e7) (by cases e7 <;> rfl) (.bool d59) (fun hb => exec_gtrM (.tmp 58) (.const (.int .i64 2)) rfl _ _ _ (by exact hu58 hb) rfl hd59) ?_
  intro u59 hu59 hz59
  simp only [Act.put, List.setIfInBounds_toArray, List.set_cons_succ, List.set_cons_zero]
  obtain ⟨e8, he8⟩ : ∃ b, (e7 || d59) = b := ⟨_, rfl⟩
  refine wpList_vl rfl (.bool e8) ((he8 ▸ exec_orM (.tmp 56) (.const (.bool true)) (.tmp 59) rfl e7 d59 rfl rfl (fun hb0 => by exact hu59 (by simp [hb0])))) ?_
  simp only [Act.put, List.setIfInBounds_toArray, List.set_cons_succ, List.set_cons_zero]
  refine wpList_vl rfl (.bool e8) (exec_movM (.tmp 60) rfl _ rfl) ?_
  simp only [Act.put, List.setIfInBounds_toArray, List.set_cons_succ, List.set_cons_zero]
  refine wpList_vlIf (!e8) (by cases e8 <;> rfl) (.pointer (some ⟨sb, 4, none⟩)) (fun hb => exec_arrM (.tmp 4) 4 (by decide) rfl sb rfl) ?_
  intro u62 hu62 hz62
  simp only [Act.put, List.setIfInBounds_toArray, List.set_cons_succ, List.set_cons_zero]
  refine wpList_vlIf (!e8) (by cases e8 <;> rfl) (.int .i64 s4) (fun hb => Bp.exec_load1 3 (.tmp 62) rfl ⟨sb, 4, none⟩ (by exact hu62 hb) _ c4 _ Try.underlying3 rfl) ?_
  intro u63 hu63 hz63
  simp only [Act.put, List.setIfInBounds_toArray, List.set_cons_succ, List.set_cons_zero]
  obtain ⟨d64, hd64⟩ : ∃ b, decide (s4 < 2) = b := ⟨_, rfl⟩
  refine wpList_vlIf (!e8) (by cases e8 <;> rfl) (.bool d64) (fun hb => exec_lssM (.tmp 63) (.const (.int .i64 2)) rfl _ _ _ (by exact hu63 hb) rfl hd64) ?_
  intro u64 hu64 hz64
  simp only [Act.put, List.setIfInBounds_toArray, List.set_cons_succ, List.set_cons_zero]
  obtain ⟨e9, he9⟩ : ∃ b, (e8 || d64) = b := ⟨_, rfl⟩
  refine wpList_vl rfl (.bool e9) ((he9 ▸ exec_orM (.tmp 61) (.const (.bool true)) (.tmp 64) rfl e8 d64 rfl rfl (fun hb0 => by exact hu64 (by simp [hb0])))) ?_
  simp only [Act.put, List.setIfInBounds_toArray, List.set_cons_succ, List.set_cons_zero]
  refine wpList_vl rfl (.bool e9) (exec_movM (.tmp 65) rfl _ rfl) ?_
  simp only [Act.put, List.setIfInBounds_toArray, List.set_cons_succ, List.set_cons_zero]
  refine wpList_vlIf (!e9) (by cases e9 <;> rfl) (.pointer (some ⟨sb, 4, none⟩)) (fun hb => exec_arrM (.tmp 4) 4 (by decide) rfl sb rfl) ?_
  intro u67 hu67 hz67
  simp only [Act.put, List.setIfInBounds_toArray, List.set_cons_succ, List.set_cons_zero]
  refine wpList_vlIf (!e9) (by cases e9 <;> rfl) (.int .i64 s4) (fun hb => Bp.exec_load1 3 (.tmp 67) rfl ⟨sb, 4, none⟩ (by exact hu67 hb) _ c4 _ Try.underlying3 rfl) ?_
  intro u68 hu68 hz68
  simp only [Act.put, List.setIfInBounds_toArray, List.set_cons_succ, List.set_cons_zero]
  obtain ⟨d69, hd69⟩ : ∃ b, decide (8 < s4) = b := ⟨_, rfl⟩
  refine wpList_vlIf (!e9) (by cases e9 <;> rfl) (.bool d69) (fun hb => exec_gtrM (.tmp 68) (.const (.int .i64 8)) rfl _ _ _ (by exact hu68 hb) rfl hd69) ?_
  intro u69 hu69 hz69
  simp only [Act.put, List.setIfInBounds_toArray, List.set_cons_succ, List.set_cons_zero]
  obtain ⟨e10, he10⟩ : ∃ b, (e9 || d69) = b := ⟨_, rfl⟩
  refine wpList_vl rfl (.bool e10) ((he10 ▸ exec_orM (.tmp 66) (.const (.bool true)) (.tmp 69) rfl e9 d69 rfl rfl (fun hb0 => by exact hu69 (by simp [hb0])))) ?_
  simp only [Act.put, List.setIfInBounds_toArray, List.set_cons_succ, List.set_cons_zero]
  refine wpList_vl rfl (.bool e10) (exec_movM (.tmp 70) rfl _ rfl) ?_
  simp only [Act.put, List.setIfInBounds_toArray, List.set_cons_succ, List.set_cons_zero]
  refine wpList_vlIf (!e10) (by cases e10 <;> rfl) (.pointer (some ⟨sb, 5, none⟩)) (fun hb => exec_arrM (.tmp 4) 5 (by decide) rfl sb rfl) ?_
  intro u72 hu72 hz72
  simp only [Act.put, List.setIfInBounds_toArray, List.set_cons_succ, List.set_cons_zero]
  refine wpList_vlIf (!e10) (by cases e10 <;> rfl) (.int .i64 s5) (fun hb => Bp.exec_load1 3 (.tmp 72) rfl ⟨sb, 5, none⟩ (by exact hu72 hb) _ c5 _ Try.underlying3 rfl) ?_
  intro u73 hu73 hz73
  simp only [Act.put, List.setIfInBounds_toArray, List.set_cons_succ, List.set_cons_zero]
  obtain ⟨d74, hd74⟩ : ∃ b, decide (s5 < 1) = b := ⟨_, rfl⟩
  refine wpList_vlIf (!e10) (by cases e10 <;> rfl) (.bool d74) (fun hb => exec_lssM (.tmp 73) (.const (.int .i64 1)) rfl _ _ _ (by exact hu73 hb) rfl hd74) ?_
  intro u74 hu74 hz74
  simp only [Act.put, List.setIfInBounds_toArray, List.set_cons_succ, List.set_cons_zero]
  obtain ⟨e11, he11⟩ : ∃ b, (e10 || d74) = b := ⟨_, rfl⟩
  refine wpList_vl rfl (.bool e11) ((he11 ▸ exec_orM (.tmp 71) (.const (.bool true)) (.tmp 74) rfl e10 d74 rfl rfl (fun hb0 => by exact hu74 (by simp [hb0])))) ?_
  simp only [Act.put, List.setIfInBounds_toArray, List.set_cons_succ, List.set_cons_zero]
  refine wpList_vl rfl (.bool e11) (exec_movM (.tmp 75) rfl _ rfl) ?_
  simp only [Act.put, List.setIfInBounds_toArray, List.set_cons_succ, List.set_cons_zero]
  refine wpList_vlIf (!e11) (by cases e11 <;> rfl) (.pointer (some ⟨sb, 5, none⟩)) (fun hb => exec_arrM (.tmp 4) 5 (by decide) rfl sb rfl) ?_
  intro u77 hu77 hz77
  simp only [Act.put, List.setIfInBounds_toArray, List.set_cons_succ, List.set_cons_zero]
  refine wpList_vlIf (!e11) (by cases e11 <;> rfl) (.int .i64 s5) (fun hb => Bp.exec_load1 3 (.tmp 77) rfl ⟨sb, 5, none⟩ (by exact hu77 hb) _ c5 _ Try.underlying3 rfl) ?_
  intro u78 hu78 hz78
  simp only [Act.put, List.setIfInBounds_toArray, List.set_cons_succ, List.set_cons_zero]
  obtain ⟨d79, hd79⟩ : ∃ b, decide (4 < s5) = b := ⟨_, rfl⟩
  refine wpList_vlIf (!e11) (by cases e11 <;> rfl) (.bool d79) (fun hb => exec_gtrM (.tmp 78) (.const (.int .i64 4)) rfl _ _ _ (by exact hu78 hb) rfl hd79) ?_
  intro u79 hu79 hz79
  simp only [Act.put, List.setIfInBounds_toArray, List.set_cons_succ, List.set_cons_zero]
  obtain ⟨e12, he12⟩ : ∃ b, (e11 || d79) = b := ⟨_, rfl⟩
  refine wpList_vl rfl (.bool e12) ((he12 ▸ exec_orM (.tmp 76) (.const (.bool true)) (.tmp 79) rfl e11 d79 rfl rfl (fun hb0 => by exact hu79 (by simp [hb0])))) ?_
  simp only [Act.put, List.setIfInBounds_toArray, List.set_cons_succ, List.set_cons_zero]
  refine wpList_vl rfl (.bool e12) (exec_movM (.tmp 80) rfl _ rfl) ?_
  simp only [Act.put, List.setIfInBounds_toArray, List.set_cons_succ, List.set_cons_zero]
  refine wpList_vlIf (!e12) (by cases e12 <;> rfl) (.pointer (some ⟨xb, 6, none⟩)) (fun hb => exec_fldM 25 1 (.tmp 1) rfl _ _ rfl (by kernel_rfl)) ?_
  intro u82 hu82 hz82
  simp only [Act.put, List.setIfInBounds_toArray, List.set_cons_succ, List.set_cons_zero]
  refine wpList_vlIf (!e12) (by cases e12 <;> rfl) (.slice sf nf cf) (fun hb => Bp.exec_load1 23 (.tmp 82) rfl ⟨xb, 6, none⟩ (by exact hu82 hb) _ c6 _ Try.underlying23 rfl) ?_
  intro u83 hu83 hz83
  simp only [Act.put, List.setIfInBounds_toArray, List.set_cons_succ, List.set_cons_zero]
  refine wpList_vlIf (!e12) (by cases e12 <;> rfl) (.int .i64 (nf : Int)) (fun hb => exec_lenM (.tmp 83) rfl _ _ _ (by exact hu83 hb)) ?_
  intro u84 hu84 hz84
  simp only [Act.put, List.setIfInBounds_toArray, List.set_cons_succ, List.set_cons_zero]
  obtain ⟨d85, hd85⟩ : ∃ b, decide ((nf : Int) < 1) = b := ⟨_, rfl⟩
  refine wpList_vlIf (!e12) (by cases e12 <;> rfl) (.bool d85) (fun hb => exec_lssM (.tmp 84) (.const (.int .i64 1)) rfl _ _ _ (by exact hu84 hb) rfl hd85) ?_
  intro u85 hu85 hz85
  simp only [Act.put, List.setIfInBounds_toArray, List.set_cons_succ, List.set_cons_zero]
  obtain ⟨e13, he13⟩ : ∃ b, (e12 || d85) = b := ⟨_, rfl⟩
  refine wpList_vl rfl (.bool e13) ((he13 ▸ exec_orM (.tmp 81) (.const (.bool true)) (.tmp 85) rfl e12 d85 rfl rfl (fun hb0 => by exact hu85 (by simp [hb0])))) ?_
  simp only [Act.put, List.setIfInBounds_toArray, List.set_cons_succ, List.set_cons_zero]
  refine wpList_vl rfl (.bool e13) (exec_movM (.tmp 86) rfl _ rfl) ?_
  simp only [Act.put, List.setIfInBounds_toArray, List.set_cons_succ, List.set_cons_zero]
  refine wpList_vlIf (!e13) (by cases e13 <;> rfl) (.pointer (some ⟨xb, 6, none⟩)) (fun hb => exec_fldM 25 1 (.tmp 1) rfl _ _ rfl (by kernel_rfl)) ?_
  intro u88 hu88 hz88
  simp only [Act.put, List.setIfInBounds_toArray, List.set_cons_succ, List.set_cons_zero]
  refine wpList_vlIf (!e13) (by cases e13 <;> rfl) (.slice sf nf cf) (fun hb => Bp.exec_load1 23 (.tmp 88) rfl ⟨xb, 6, none⟩ (by exact hu88 hb) _ c6 _ Try.underlying23 rfl) ?_
  intro u89 hu89 hz89
  simp only [Act.put, List.setIfInBounds_toArray, List.set_cons_succ, List.set_cons_zero]
  refine wpList_vlIf (!e13) (by cases e13 <;> rfl) (.int .i64 (nf : Int)) (fun hb => exec_lenM (.tmp 89) rfl _ _ _ (by exact hu89 hb)) ?_
  intro u90 hu90 hz90
  simp only [Act.put, List.setIfInBounds_toArray, List.set_cons_succ, List.set_cons_zero]
  obtain ⟨d91, hd91⟩ : ∃ b, decide (80 < (nf : Int)) = b := ⟨_, rfl⟩
  refine wpList_vlIf (!e13) (by cases e13 <;> rfl) (.bool d91) (fun hb => exec_gtrM (.tmp 90) (.const (.int .i64 80)) rfl _ _ _ (by exact hu90 hb) rfl hd91) ?_
  intro u91 hu91 hz91
  simp only [Act.put, List.setIfInBounds_toArray, List.set_cons_succ, List.set_cons_zero]
  obtain ⟨e14, he14⟩ : ∃ b, (e13 || d91) = b := ⟨_, rfl⟩
  refine wpList_vl rfl (.bool e14) ((he14 ▸ exec_orM (.tmp 87) (.const (.bool true)) (.tmp 91) rfl e13 d91 rfl rfl (fun hb0 => by exact hu91 (by simp [hb0])))) ?_
  simp only [Act.put, List.setIfInBounds_toArray, List.set_cons_succ, List.set_cons_zero]
  have HBad : Hid (badS s0 s1 s2 s3 s4 s5 nf = e14) := Lib.hid (by unfold badS; rw [hd16, hd20, he1, hd25, hd29, he2, he3, hd35, he4, hd40, he5, hd49, he6, hd54, he7, hd59, he8, hd64, he9, hd69, he10, hd74, he11, hd79, he12, hd85, he13, hd91, he14])
  clear hs2 hmul hrem he1 he2 he3 he4 he5 he6 he7 he8 he9 he10 he11 he12 he13 he14 hd16 hd20 hd25 hd29 hd35 hd40 hd49 hd54 hd59 hd64 hd69 hd74 hd79 hd85 hd91
  clear hu18 hz18 hu19 hz19 hu20 hz20 hu23 hz23 hu24 hz24 hu25 hz25 hu26 hz26 hu27 hz27 hu28 hz28 hu29 hz29 hu30 hz30 hu33 hz33 hu34 hz34 hu35 hz35 hu38 hz38 hu39 hz39 hu40 hz40 hu43 hz43 hu44 hz44 hu45 hz45 hu46 hz46 hu47 hz47 hu48 hz48 hu49 hz49 hu52 hz52 hu53 hz53 hu54 hz54 hu57 hz57 hu58 hz58 hu59 hz59 hu62 hz62 hu63 hz63 hu64 hz64 hu67 hz67 hu68 hz68 hu69 hz69 hu72 hz72 hu73 hz73 hu74 hz74 hu77 hz77 hu78 hz78 hu79 hz79 hu82 hz82 hu83 hz83 hu84 hz84 hu85 hz85 hu88 hz88 hu89 hz89 hu90 hz90 hu91 hz91
  cases e14 with
  | true =>
    go_wp2_with (refine wpList_store_row rfl 38 (.tmp 2) (.tmp 93) rfl rb #[.int .i64 0, .int .i64 0, .int .i64 0, .int .i64 0, .int .i64 0, .int .i64 0, .slice none 0 0, .slice none 0 0, .int .i64 0, .int .i64 0, .slice none 0 0, .slice none 0 0, .slice none 0 0, .int .i64 0, .int .i64 0, .slice none 0 0] rfl rfl 38 _ HR.out size_wM rfl zc_one ?_)
    exact bodyPost_ret (v := .tuple #[.agg #[.int .i64 0, .int .i64 0, .int .i64 0, .int .i64 0, .int .i64 0, .int .i64 0, .slice none 0 0, .slice none 0 0, .int .i64 0, .int .i64 0, .slice none 0 0, .slice none 0 0, .slice none 0 0, .int .i64 0, .int .i64 0, .slice none 0 0], .bool false]) (results_rtM Try.results25 _ _ rb 38 _ (0, 0) _ _ rfl (setRow_heap _ _ _ _ _ _ HR.out) Try.underlying38 rfl size_wM rfl) rfl ⟨below_setRowM HBl.out (by have := HRb.out; omega) _, Or.inl rfl⟩
  | false =>
    have hok := HBad.out
    go_wp2
    go_loopw [5] (fun iv wr => ∃ i : Nat, i ≤ nf ∧ iv = .int .i64 i ∧ w1 = wr) (fun iv _ => nf - (intOf iv).toNat)
    case atStart => exact ⟨0, by omega, rfl, rfl⟩
    case round =>
      obtain ⟨i, hi, rfl, rfl⟩ := hrel
      by_cases hlt : i < nf
      · have e1 : decide (i < nf) = true := by simpa using hlt
        have e2 : decide ((i : Int) < (nf : Int)) = true := by simp; omega
        obtain ⟨fc, fo, rfl, hz⟩ := HN.out.at_ i (by rw [HFl.out]; exact hlt)
        obtain ⟨z, hzz⟩ : ∃ z, fl.getD i 0 = z := ⟨_, rfl⟩
        rw [hzz] at hz
        have cz := (HBl.out.cell (block_lt_of_cell hz)).trans hz
        have HI := Lib.hid hlt
        clear hz hzz
        go_upto_region 7 with fail
        refine wp_region_lit ?_
        refine wpList_vl rfl (.pointer (some ⟨xb, 6, none⟩)) (exec_fldM 25 1 (.tmp 1) rfl _ _ rfl (by kernel_rfl)) ?_
        simp only [Act.put, List.setIfInBounds_toArray, List.set_cons_succ, List.set_cons_zero]
        refine wpList_vl rfl (.slice (some ⟨fc, fo, none⟩) nf cf) (Bp.exec_load1 23 (.tmp 101) rfl ⟨xb, 6, none⟩ rfl _ c6 _ Try.underlying23 rfl) ?_
        simp only [Act.put, List.setIfInBounds_toArray, List.set_cons_succ, List.set_cons_zero]
        refine wpList_vl rfl (.int .i64 (i : Int)) (exec_movM (.tmp 5) rfl _ rfl) ?_
        simp only [Act.put, List.setIfInBounds_toArray, List.set_cons_succ, List.set_cons_zero]
        refine wpList_vl rfl (.pointer (some ⟨fc, fo + i, none⟩)) (exec_atM (.tmp 102) (.tmp 103) rfl fc fo nf cf i rfl rfl HI.out) ?_
        simp only [Act.put, List.setIfInBounds_toArray, List.set_cons_succ, List.set_cons_zero]
        refine wpList_vl rfl (.int .i64 z) (Bp.exec_load1 3 (.tmp 104) rfl ⟨fc, fo + i, none⟩ rfl _ cz _ Try.underlying3 rfl) ?_
        simp only [Act.put, List.setIfInBounds_toArray, List.set_cons_succ, List.set_cons_zero]
        obtain ⟨d106, hd106⟩ : ∃ b, decide (z < (-16777216)) = b := ⟨_, rfl⟩
        refine wpList_vl rfl (.bool d106) (exec_lssM (.tmp 105) (.const (.int .i64 (-16777216))) rfl _ _ _ rfl rfl hd106) ?_
        simp only [Act.put, List.setIfInBounds_toArray, List.set_cons_succ, List.set_cons_zero]
        refine wpList_vl rfl (.bool d106) (exec_movM (.tmp 106) rfl _ rfl) ?_
        simp only [Act.put, List.setIfInBounds_toArray, List.set_cons_succ, List.set_cons_zero]
        refine wpList_vlIf (!d106) (by cases d106 <;> rfl) (.pointer (some ⟨xb, 6, none⟩)) (fun hb => exec_fldM 25 1 (.tmp 1) rfl _ _ rfl (by kernel_rfl)) ?_
        intro u108 hu108 hz108
        simp only [Act.put, List.setIfInBounds_toArray, List.set_cons_succ, List.set_cons_zero]
        refine wpList_vlIf (!d106) (by cases d106 <;> rfl) (.slice (some ⟨fc, fo, none⟩) nf cf) (fun hb => Bp.exec_load1 23 (.tmp 108) rfl ⟨xb, 6, none⟩ (by exact hu108 hb) _ c6 _ Try.underlying23 rfl) ?_
        intro u109 hu109 hz109
        simp only [Act.put, List.setIfInBounds_toArray, List.set_cons_succ, List.set_cons_zero]
        refine wpList_vlIf (!d106) (by cases d106 <;> rfl) (.int .i64 (i : Int)) (fun hb => exec_movM (.tmp 5) rfl _ rfl) ?_
        intro u110 hu110 hz110
        simp only [Act.put, List.setIfInBounds_toArray, List.set_cons_succ, List.set_cons_zero]
        refine wpList_vlIf (!d106) (by cases d106 <;> rfl) (.pointer (some ⟨fc, fo + i, none⟩)) (fun hb => exec_atM (.tmp 109) (.tmp 110) rfl fc fo nf cf i (by exact hu109 hb) (by exact hu110 hb) HI.out) ?_
        intro u111 hu111 hz111
        simp only [Act.put, List.setIfInBounds_toArray, List.set_cons_succ, List.set_cons_zero]
        refine wpList_vlIf (!d106) (by cases d106 <;> rfl) (.int .i64 z) (fun hb => Bp.exec_load1 3 (.tmp 111) rfl ⟨fc, fo + i, none⟩ (by exact hu111 hb) _ cz _ Try.underlying3 rfl) ?_
        intro u112 hu112 hz112
        simp only [Act.put, List.setIfInBounds_toArray, List.set_cons_succ, List.set_cons_zero]
        obtain ⟨d113, hd113⟩ : ∃ b, decide (16777216 < z) = b := ⟨_, rfl⟩
        refine wpList_vlIf (!d106) (by cases d106 <;> rfl) (.bool d113) (fun hb => exec_gtrM (.tmp 112) (.const (.int .i64 16777216)) rfl _ _ _ (by exact hu112 hb) rfl hd113) ?_
        intro u113 hu113 hz113
        simp only [Act.put, List.setIfInBounds_toArray, List.set_cons_succ, List.set_cons_zero]
        obtain ⟨e15, he15⟩ : ∃ b, (d106 || d113) = b := ⟨_, rfl⟩
        refine wpList_vl rfl (.bool e15) ((he15 ▸ exec_orM (.tmp 107) (.const (.bool true)) (.tmp 113) rfl d106 d113 rfl rfl (fun hb0 => by exact hu113 (by simp [hb0])))) ?_
        simp only [Act.put, List.setIfInBounds_toArray, List.set_cons_succ, List.set_cons_zero]
        clear hu108 hz108 hu109 hz109 hu110 hz110 hu111 hz111 hu112 hz112 hu113 hz113
        cases e15 with
        | true =>
          go_wp2_with (refine wpList_store_row rfl 38 (.tmp 2) (.tmp 115) rfl rb #[.int .i64 0, .int .i64 0, .int .i64 0, .int .i64 0, .int .i64 0, .int .i64 0, .slice none 0 0, .slice none 0 0, .int .i64 0, .int .i64 0, .slice none 0 0, .slice none 0 0, .slice none 0 0, .int .i64 0, .int .i64 0, .slice none 0 0] rfl rfl 38 _ HR.out size_wM rfl zc_one ?_)
          exact bodyPost_ret (v := .tuple #[.agg #[.int .i64 0, .int .i64 0, .int .i64 0, .int .i64 0, .int .i64 0, .int .i64 0, .slice none 0 0, .slice none 0 0, .int .i64 0, .int .i64 0, .slice none 0 0, .slice none 0 0, .slice none 0 0, .int .i64 0, .int .i64 0, .slice none 0 0], .bool false]) (results_rtM Try.results25 _ _ rb 38 _ (0, 0) _ _ rfl (setRow_heap _ _ _ _ _ _ HR.out) Try.underlying38 rfl size_wM rfl) rfl ⟨below_setRowM HBl.out (by have := HRb.out; omega) _, Or.inl rfl⟩
        | false =>
          go_wp2
          go_roundw
          case rel => exact ⟨i + 1, by omega, by go_num, trivial⟩
          case measure => simp [intOf]; omega
      · obtain rfl : i = nf := by omega
        have e1 : decide (i < i) = false := by simp
        have e2 : decide ((i : Int) < (i : Int)) = false := by simp
        obtain ⟨V, D, H, L, X, I, rfl, rfl, rfl, rfl, rfl, rfl, g0, g1, g2, g3, g4, g5, g6⟩ := good_sizes hok
        go_upto_region 10 with fail
        refine genM (Q := fun w => Code.wp _ _ _ _ w) _ (fun W => Below w1.heap.size w1 W ∧ W.heap[w1.heap.size]? = some (.cells #[.int .i64 (V : Int), .int .i64 (D : Int), .int .i64 (H : Int), .int .i64 (L : Int), .int .i64 (X : Int), .int .i64 (I : Int)] 31 (0, 0))) ⟨(Below.refl _ _).alloc (Nat.le_refl _) _, heap_alloc_new _ _⟩ ?_
        rintro w2 ⟨k1, k2⟩
        replace c6 := (k1.cell (block_lt_of_cell c6)).trans c6
        have HB2 := Lib.hid (HBl.out.trans (k1.mono HBl.out.size))
        have HCb : Hid (w.heap.size ≤ w1.heap.size) := Lib.hid HBl.out.size
        obtain ⟨cb, hcb⟩ : ∃ x, w1.heap.size = x := ⟨_, rfl⟩
        rw [hcb] at k2 HCb ⊢
        have HC := Lib.hid k2
        have HR2 := Lib.hid ((k1.block _ (Array.getElem?_eq_some_iff.1 HR.out).1).trans HR.out)
        clear k1 k2 hcb c0 c1 c2 c3 c4 c5
        go_upto_region 11 with fail
        refine genM (Q := fun w => Code.wp _ _ _ _ w) _ (fun W => Below w2.heap.size w2 W ∧ W.heap[w2.heap.size]? = some (.cells #[.slice sf i cf, .int .i64 0] 103 (0, 0))) ⟨(Below.refl _ _).alloc (Nat.le_refl _) _, heap_alloc_new _ _⟩ ?_
        rintro w3 ⟨k1, k2⟩
        have HB3 := Lib.hid (HB2.out.trans (k1.mono HB2.out.size))
        have HFb : Hid (w.heap.size ≤ w2.heap.size) := Lib.hid HB2.out.size
        have HC3 := Lib.hid ((k1.block _ (Array.getElem?_eq_some_iff.1 HC.out).1).trans HC.out)
        obtain ⟨fb, hfb⟩ : ∃ x, w2.heap.size = x := ⟨_, rfl⟩
        rw [hfb] at k2 HFb ⊢
        have HF := Lib.hid k2
        have HR3 := Lib.hid ((k1.block _ (Array.getElem?_eq_some_iff.1 HR2.out).1).trans HR2.out)
        clear k1 k2 hfb c6
        go_upto_region 12 with (refine wpList_load_row rfl 31 (.tmp 6) rfl cb rfl 31 _ (0, 0) _ HC3.out Try.underlying31 rfl size_cfg ?_)
        have hM0 : Mk w cb fb w3.heap.size V D H L X I sf cf fl 0 #[.int .i64 (V : Int), .int .i64 (D : Int), .int .i64 (H : Int), .int .i64 (L : Int), .int .i64 (X : Int), .int .i64 (I : Int), .slice none 0 0, .slice none 0 0, .int .i64 0, .int .i64 0, .slice none 0 0, .slice none 0 0, .slice none 0 0, .int .i64 0, .int .i64 0, .slice none 0 0] (w3.alloc (.cells #[.int .i64 (V : Int), .int .i64 (D : Int), .int .i64 (H : Int), .int .i64 (L : Int), .int .i64 (X : Int), .int .i64 (I : Int), .slice none 0 0, .slice none 0 0, .int .i64 0, .int .i64 0, .slice none 0 0, .slice none 0 0, .slice none 0 0, .int .i64 0, .int .i64 0, .slice none 0 0] 38)) := by
          refine ⟨⟨HB3.out.trans (((Below.refl _ _).alloc (Nat.le_refl _) _).mono HB3.out.size), HFb.out, ?_⟩, HCb.out, HB3.out.size, ?_, heap_alloc_new _ _, by have := HRb.out; have := (Array.getElem?_eq_some_iff.1 HR3.out).1; omega, by rw [HRb.out]; exact (heap_alloc_old _ _ (Array.getElem?_eq_some_iff.1 HR3.out).1).trans HR3.out⟩
          · rw [HFl.out]
            exact (heap_alloc_old _ _ (Array.getElem?_eq_some_iff.1 HF.out).1).trans HF.out
          · exact (heap_alloc_old _ _ (Array.getElem?_eq_some_iff.1 HC3.out).1).trans HC3.out
        refine genM (Q := fun w => Code.wp _ _ _ _ w) _ (fun W => Mk w cb fb w3.heap.size V D H L X I sf cf fl 0 #[.int .i64 (V : Int), .int .i64 (D : Int), .int .i64 (H : Int), .int .i64 (L : Int), .int .i64 (X : Int), .int .i64 (I : Int), .slice none 0 0, .slice none 0 0, .int .i64 0, .int .i64 0, .slice none 0 0, .slice none 0 0, .slice none 0 0, .int .i64 0, .int .i64 0, .slice none 0 0] W) hM0 ?_
        clear hM0
        obtain ⟨wb, hwb⟩ : ∃ x, w3.heap.size = x := ⟨_, rfl⟩
        rw [hwb]
        clear hwb HB2 HC HB3 HFb HC3 HF HCb HR2 HR3
        rintro w4 k1
        have HM4 := Lib.hid k1
        clear k1
        go_wp2
        go_loopw [9] (fun iv wr => ∃ (j : Nat) (av : Value), j ≤ V ∧ iv = .int .i64 j ∧ Mk w cb fb wb V D H L X I sf cf fl 0 #[.int .i64 (V : Int), .int .i64 (D : Int), .int .i64 (H : Int), .int .i64 (L : Int), .int .i64 (X : Int), .int .i64 (I : Int), av, .slice none 0 0, .int .i64 0, .int .i64 0, .slice none 0 0, .slice none 0 0, .slice none 0 0, .int .i64 0, .int .i64 0, .slice none 0 0] wr ∧ wr.ownsRow w.heap.size 5 1 av j ((alp j).map (Value.int .u8))) (fun iv _ => V - (intOf iv).toNat)
        case atStart => exact ⟨0, .slice none 0 0, by omega, rfl, HM4.out, ⟨rfl, Or.inl ⟨rfl, rfl⟩⟩⟩
        case round =>
          obtain ⟨j, av, hj, rfl, k1, k2⟩ := hrel
          obtain ⟨sv, cv, rfl, _⟩ := Sl.all1 k2
          obtain ⟨q0, q1, q3, q5⟩ := k1.cfg
          obtain ⟨q6, z6⟩ := k1.w 6
          replace q6 : wr.cell? ⟨wb, 6, none⟩ = some (.slice sv j cv) := q6
          have HM := Lib.hid k1
          have HOw := Lib.hid k2
          have HSz : Hid (w.heap.size ≤ wr.heap.size) := Lib.hid k1.fil.below.size
          have HFar := Lib.hid (k1.far k2 (by decide) (by decide) (by decide))
          clear k1 k2
          by_cases hlt : j < V
          · have e1 : decide (j < V) = true := by simpa using hlt
            have e2 : decide ((j : Int) < (V : Int)) = true := by simp; omega
            have HJ : Hid (j ≤ 999999) := Lib.hid (by omega)
            have hw : wrap64 (97 + (j : Int)) = ((97 + j : Nat) : Int) := by unfold wrap64; omega
            have hw2 : IntKind.i64.wrap (97 + (j : Int)) = ((97 + j : Nat) : Int) := by rw [IntWalk.i64_in _ (by omega)]; omega
            have hu : IntKind.u8.wrap ((97 + j : Nat) : Int) = ((97 + j : Nat) : Int) := by simp [IntKind.wrap, IntKind.bits, IntKind.signed]; omega
            go_upto_region 14 with (at_builtin; refine wpList_pushB rfl (.tmp 142) (.tmp 146) rfl w.heap.size _ j (alp j) ((97 + j : Nat) : Int) rfl HOw.out rfl HJ.out HSz.out ?_; intro sq cq w5 k1 k2; have K1 := Lib.hid k1; have HM5 := Lib.hid (HM.out.grown k2 HFar.out); clear k1 k2 q0 q1 q3 q5 q6 z6; obtain ⟨q6, z6⟩ := HM5.out.w 6; replace q6 : w5.cell? ⟨wb, 6, none⟩ = some (.slice sv j cv) := q6)
            have hput := HM5.out.put 6 (.slice sq (j + 1) cq)
            have HP := Lib.hid hput
            have hfar := HM5.out.far K1.out (by decide) (by decide) (by decide)
            have HK := Lib.hid (K1.out.kept (row := some wb) (grownM_set w5 wb 6 (.slice sq (j + 1) cq)) (Or.inr fun e => (hfar _ e).2.2.2 rfl))
            clear hput hfar
            go_wp2
            go_roundw
            case rel => exact ⟨j + 1, .slice sq (j + 1) cq, by omega, by go_num, HP.out, by rw [alp_succ]; exact HK.out⟩
            case measure => simp [intOf]; omega
          · obtain rfl : j = V := by omega
            have e1 : decide (j < j) = false := by simp
            have e2 : decide ((j : Int) < (j : Int)) = false := by simp
            go_upto_region 16 with fail
            obtain ⟨n0, hn0⟩ : ∃ n, j * D = n := ⟨_, rfl⟩
            have hn1 : n0 ≤ 48 := by rw [← hn0]; exact Nat.mul_le_mul g0.2 g1.2
            have HCm := Lib.hid (matrix_any HN.out (by rw [HFl.out]; omega) (by rw [HFl.out]; omega) wr HM.out.fil (by omega) j D n0 hn0 (by omega))
            have HN0 := Lib.hid hn0
            clear q6 z6 q3 q5 hn0
            go_wp2_with fail
            refine HCm.out.mono ?_
            rintro e w6 ⟨se, ce, rfl, k1, k2, k3⟩
            rw [Nat.zero_add] at k1
            have HM6 := Lib.hid (HM.out.next k1 k2)
            have HEm := Lib.hid (owns_base k3 HSz.out)
            have HAl := Lib.hid (HOw.out.kept k2 (Or.inr fun e => (HFar.out _ e).2.2.1 rfl))
            clear k1 k2 k3 q0 q1 HCm HM HOw HFar
            obtain ⟨q8, z8⟩ := HM6.out.w 8
            obtain ⟨q9, z9⟩ := HM6.out.w 9
            obtain ⟨q10, z10⟩ := HM6.out.w 10
            replace q8 : w6.cell? ⟨wb, 8, none⟩ = some (.int .i64 0) := q8
            replace q9 : w6.cell? ⟨wb, 9, none⟩ = some (.int .i64 0) := q9
            replace q10 : w6.cell? ⟨wb, 10, none⟩ = some (.slice none 0 0) := q10
            have HM7 : Hid (Mk w cb fb wb j D H L X I sf cf fl n0 #[.int .i64 (j : Int), .int .i64 (D : Int), .int .i64 (H : Int), .int .i64 (L : Int), .int .i64 (X : Int), .int .i64 (I : Int), .slice sv j cv, .slice none 0 0, .int .i64 (j : Int), .int .i64 (D : Int), .slice se n0 ce, .slice none 0 0, .slice none 0 0, .int .i64 0, .int .i64 0, .slice none 0 0] (((w6.setCell ⟨wb, 8, none⟩ (.int .i64 (j : Int))).setCell ⟨wb, 9, none⟩ (.int .i64 (D : Int))).setCell ⟨wb, 10, none⟩ (.slice se n0 ce))) := Lib.hid (((HM6.out.put 8 _).put 9 _).put 10 _)
            have hfa := HM6.out.far HAl.out (by decide) (by decide) (by decide)
            have hfe := HM6.out.far HEm.out (by decide) (by decide) (by decide)
            have HA7 := Lib.hid (owns_set3 HAl.out (fun e => (hfa _ e).2.2.2 rfl) 8 9 10 (.int .i64 (j : Int)) (.int .i64 (D : Int)) (.slice se n0 ce))
            have HE7 := Lib.hid (owns_set3 HEm.out (fun e => (hfe _ e).2.2.2 rfl) 8 9 10 (.int .i64 (j : Int)) (.int .i64 (D : Int)) (.slice se n0 ce))
            clear hfa hfe HM6 HEm HAl
            obtain ⟨w7, hw7⟩ : ∃ w7, (((w6.setCell ⟨wb, 8, none⟩ (.int .i64 (j : Int))).setCell ⟨wb, 9, none⟩ (.int .i64 (D : Int))).setCell ⟨wb, 10, none⟩ (.slice se n0 ce)) = w7 := ⟨_, rfl⟩
            rw [hw7] at HM7 HA7 HE7
            go_upto_region 17 with fail
            clear q8 q9 q10 z8 z9 z10 hw7
            go_wp2
            go_loopw [10] (fun iv wr => ∃ (y a_ : Nat) (lv : Value) (Ls : List LayV), y ≤ L ∧ iv = .int .i64 y ∧ a_ ≤ 48 + y * 120 ∧ Mk w cb fb wb j D H L X I sf cf fl a_ #[.int .i64 (j : Int), .int .i64 (D : Int), .int .i64 (H : Int), .int .i64 (L : Int), .int .i64 (X : Int), .int .i64 (I : Int), .slice sv j cv, .slice none 0 0, .int .i64 (j : Int), .int .i64 (D : Int), .slice se n0 ce, lv, .slice none 0 0, .int .i64 0, .int .i64 0, .slice none 0 0] wr ∧ wr.ownsRow w.heap.size 5 1 (.slice sv j cv) j ((alp j).map (Value.int .u8)) ∧ RowN w.heap.size wr n0 (.slice se n0 ce, fillN fl 0 n0) ∧ Ls.length = y ∧ wr.ownsRow w.heap.size 83 23 lv y (Ls.flatMap (LayV.cells D I)) ∧ ∀ x ∈ Ls, x.own w.heap.size wr D I) (fun iv _ => L - (intOf iv).toNat)
            case atStart => exact ⟨0, n0, .slice none 0 0, [], by omega, rfl, by omega, HM7.out, HA7.out, HE7.out, rfl, ⟨rfl, Or.inl ⟨rfl, rfl⟩⟩, fun x hx => by simp at hx⟩
            case round =>
              clear HM7 HA7 HE7
              obtain ⟨y, a_, lv, Ls, hy, rfl, ha, k1, k2, k3, k4, k5, k6⟩ := hrel
              obtain ⟨q0, q1, q3, q5⟩ := k1.cfg
              have HM := Lib.hid k1
              have HA := Lib.hid k2
              have HE := Lib.hid k3
              have HLn := Lib.hid k4
              have HLv := Lib.hid k5
              have HLs := Lib.hid k6
              clear k1 k2 k3 k4 k5 k6
              by_cases hlt : y < L
              · have e1 : decide (y < L) = true := by simpa using hlt
                have e2 : decide ((y : Int) < (L : Int)) = true := by simp; omega
                have ha2 : a_ ≤ 300 := by omega
                obtain ⟨nDD, hDD⟩ : ∃ n, D * D = n := ⟨_, rfl⟩
                obtain ⟨nID, hID⟩ : ∃ n, I * D = n := ⟨_, rfl⟩
                obtain ⟨nDI, hDI⟩ : ∃ n, D * I = n := ⟨_, rfl⟩
                have bDD : nDD ≤ 16 := by rw [← hDD]; exact Nat.mul_le_mul g1.2 g1.2
                have bID : nID ≤ 16 := by rw [← hID]; exact Nat.mul_le_mul g5.2 g1.2
                have bDI : nDI ≤ 16 := by rw [← hDI]; exact Nat.mul_le_mul g1.2 g5.2
                have hD4 := g1.2
                have hfl1 : 1 ≤ fl.length := by rw [HFl.out]; exact g6.1
                have hfl2 : fl.length ≤ 80 := by rw [HFl.out]; exact g6.2
                have HNx := Lib.hid fun (W : World) (A : Nat) (hA : A ≤ 100000) (hF : Fil w fb sf cf fl A W) => next_any HN.out hfl1 hfl2 W hF hA D (by omega)
                have HMx := Lib.hid fun (W : World) (A r c n : Nat) (hA : A ≤ 100000) (hF : Fil w fb sf cf fl A W) (hn : r * c = n) (hn2 : n ≤ 1000) => matrix_any HN.out hfl1 hfl2 W hF hA r c n hn hn2
                have HDD := Lib.hid hDD
                have HID := Lib.hid hID
                have HDI := Lib.hid hDI
                clear hfl1 hfl2 hDD hID hDI
                have ha3 : a_ ≤ 100000 := by omega
                clear q0 q5
                go_upto_region 20 with fail
                refine wp_region_lit ?_
                refine wpList_vl rfl (.pointer (some ⟨fb, 0, none⟩)) (exec_movM (.tmp 7) rfl _ rfl) ?_
                simp only [Act.put, List.setIfInBounds_toArray, List.set_cons_succ, List.set_cons_zero]
                refine wpList_vl rfl (.pointer (some ⟨cb, 1, none⟩)) (exec_fldM 31 1 (.tmp 6) rfl _ _ rfl (by kernel_rfl)) ?_
                simp only [Act.put, List.setIfInBounds_toArray, List.set_cons_succ, List.set_cons_zero]
                refine wpList_vl rfl (.int .i64 (D : Int)) (Bp.exec_load1 3 (.tmp 163) rfl ⟨cb, 1, none⟩ rfl _ q1 _ Try.underlying3 rfl) ?_
                simp only [Act.put, List.setIfInBounds_toArray, List.set_cons_succ, List.set_cons_zero]
                refine wpList_callM rfl 47 #[.pointer (some ⟨fb, 0, none⟩), .int .i64 (D : Int)] (exec_call2M 47 (.tmp 162) (.tmp 164) _ _ _ rfl rfl rfl (Tn.cf Try.func47 (by kernel_rfl) (by kernel_rfl) _ _)) (HNx.out _ _ ha3 HM.out.fil) ?_
                rintro e w8 ⟨s1, c1, rfl, k1, k2, k3⟩
                refine ⟨_, rfl, ?_⟩
                simp only [Act.put, List.setIfInBounds_toArray, List.set_cons_succ, List.set_cons_zero]
                refine wpList_vl rfl (.agg #[.slice s1 D c1, .int .i64 0, .int .i64 0, .slice none 0 0, .int .i64 0, .int .i64 0, .slice none 0 0, .int .i64 0, .int .i64 0, .slice none 0 0, .int .i64 0, .int .i64 0, .slice none 0 0, .slice none 0 0, .int .i64 0, .int .i64 0, .slice none 0 0, .int .i64 0, .int .i64 0, .slice none 0 0, .int .i64 0, .int .i64 0, .slice none 0 0]) (exec_buildL (.tmp 165) rfl _ _ _ rfl) ?_
                simp only [Act.put, List.setIfInBounds_toArray, List.set_cons_succ, List.set_cons_zero]
                refine wpList_wM rfl (.pointer (some ⟨w8.heap.size, 0, none⟩)) _ (exec_allocL rfl) ?_
                simp only [Act.put, List.setIfInBounds_toArray, List.set_cons_succ, List.set_cons_zero]
                refine wpList_store_row rfl 83 (.tmp 11) (.tmp 166) rfl w8.heap.size #[.slice s1 D c1, .int .i64 0, .int .i64 0, .slice none 0 0, .int .i64 0, .int .i64 0, .slice none 0 0, .int .i64 0, .int .i64 0, .slice none 0 0, .int .i64 0, .int .i64 0, .slice none 0 0, .slice none 0 0, .int .i64 0, .int .i64 0, .slice none 0 0, .int .i64 0, .int .i64 0, .slice none 0 0, .int .i64 0, .int .i64 0, .slice none 0 0] rfl rfl 83 _ (heap_alloc_new _ _) size_layM rfl (ly_one _ _ _) ?_
                have hM8 := HM.out.next k1 k2
                have hsz8 : wr.heap.size ≤ w8.heap.size := k2.size
                have hB8 : Below w8.heap.size w8 ((w8.alloc (.cells #[.slice none 0 0, .int .i64 0, .int .i64 0, .slice none 0 0, .int .i64 0, .int .i64 0, .slice none 0 0, .int .i64 0, .int .i64 0, .slice none 0 0, .int .i64 0, .int .i64 0, .slice none 0 0, .slice none 0 0, .int .i64 0, .int .i64 0, .slice none 0 0, .int .i64 0, .int .i64 0, .slice none 0 0, .int .i64 0, .int .i64 0, .slice none 0 0] 83)).setRow w8.heap.size #[.slice s1 D c1, .int .i64 0, .int .i64 0, .slice none 0 0, .int .i64 0, .int .i64 0, .slice none 0 0, .int .i64 0, .int .i64 0, .slice none 0 0, .int .i64 0, .int .i64 0, .slice none 0 0, .slice none 0 0, .int .i64 0, .int .i64 0, .slice none 0 0, .int .i64 0, .int .i64 0, .slice none 0 0, .int .i64 0, .int .i64 0, .slice none 0 0]) := below_setRowM ((Below.refl _ _).alloc (Nat.le_refl _) _) (Nat.le_refl _) _
                have hL8 : Lst w cb fb wb w8.heap.size j D H L X I sf cf fl (a_ + D) #[.int .i64 (j : Int), .int .i64 (D : Int), .int .i64 (H : Int), .int .i64 (L : Int), .int .i64 (X : Int), .int .i64 (I : Int), .slice sv j cv, .slice none 0 0, .int .i64 (j : Int), .int .i64 (D : Int), .slice se n0 ce, lv, .slice none 0 0, .int .i64 0, .int .i64 0, .slice none 0 0] #[.slice s1 D c1, .int .i64 0, .int .i64 0, .slice none 0 0, .int .i64 0, .int .i64 0, .slice none 0 0, .int .i64 0, .int .i64 0, .slice none 0 0, .int .i64 0, .int .i64 0, .slice none 0 0, .slice none 0 0, .int .i64 0, .int .i64 0, .slice none 0 0, .int .i64 0, .int .i64 0, .slice none 0 0, .int .i64 0, .int .i64 0, .slice none 0 0] ((w8.alloc (.cells #[.slice none 0 0, .int .i64 0, .int .i64 0, .slice none 0 0, .int .i64 0, .int .i64 0, .slice none 0 0, .int .i64 0, .int .i64 0, .slice none 0 0, .int .i64 0, .int .i64 0, .slice none 0 0, .slice none 0 0, .int .i64 0, .int .i64 0, .slice none 0 0, .int .i64 0, .int .i64 0, .slice none 0 0, .int .i64 0, .int .i64 0, .slice none 0 0] 83)).setRow w8.heap.size #[.slice s1 D c1, .int .i64 0, .int .i64 0, .slice none 0 0, .int .i64 0, .int .i64 0, .slice none 0 0, .int .i64 0, .int .i64 0, .slice none 0 0, .int .i64 0, .int .i64 0, .slice none 0 0, .slice none 0 0, .int .i64 0, .int .i64 0, .slice none 0 0, .int .i64 0, .int .i64 0, .slice none 0 0, .int .i64 0, .int .i64 0, .slice none 0 0]) := ⟨hM8.later hB8, hM8.fil.below.size, setRow_heap _ _ _ _ _ _ (heap_alloc_new _ _)⟩
                have hfm := HM.out.fil.row
                have hK8 : Kp w.heap.size w8.heap.size wr ((w8.alloc (.cells #[.slice none 0 0, .int .i64 0, .int .i64 0, .slice none 0 0, .int .i64 0, .int .i64 0, .slice none 0 0, .int .i64 0, .int .i64 0, .slice none 0 0, .int .i64 0, .int .i64 0, .slice none 0 0, .slice none 0 0, .int .i64 0, .int .i64 0, .slice none 0 0, .int .i64 0, .int .i64 0, .slice none 0 0, .int .i64 0, .int .i64 0, .slice none 0 0] 83)).setRow w8.heap.size #[.slice s1 D c1, .int .i64 0, .int .i64 0, .slice none 0 0, .int .i64 0, .int .i64 0, .slice none 0 0, .int .i64 0, .int .i64 0, .slice none 0 0, .int .i64 0, .int .i64 0, .slice none 0 0, .slice none 0 0, .int .i64 0, .int .i64 0, .slice none 0 0, .int .i64 0, .int .i64 0, .slice none 0 0, .int .i64 0, .int .i64 0, .slice none 0 0]) := fun e k n v xs he ho => by
                  have h1 : w8.ownsRow w.heap.size e k v n xs := ho.kept k2 (Or.inr fun e1 => by
                    obtain ⟨_, cur, hc⟩ := owns_row ho e1
                    rw [hfm] at hc
                    simp only [Option.some.injEq, Obj.cells.injEq] at hc
                    have := hc.2.1
                    rcases he with rfl | rfl | ⟨rfl, _⟩ <;> exact absurd this (by decide))
                  exact h1.kept (row := none) (grownM_of hB8 _) (by cases v.ownBlock <;> simp)
                have hR8 : RowN w.heap.size ((w8.alloc (.cells #[.slice none 0 0, .int .i64 0, .int .i64 0, .slice none 0 0, .int .i64 0, .int .i64 0, .slice none 0 0, .int .i64 0, .int .i64 0, .slice none 0 0, .int .i64 0, .int .i64 0, .slice none 0 0, .slice none 0 0, .int .i64 0, .int .i64 0, .slice none 0 0, .int .i64 0, .int .i64 0, .slice none 0 0, .int .i64 0, .int .i64 0, .slice none 0 0] 83)).setRow w8.heap.size #[.slice s1 D c1, .int .i64 0, .int .i64 0, .slice none 0 0, .int .i64 0, .int .i64 0, .slice none 0 0, .int .i64 0, .int .i64 0, .slice none 0 0, .int .i64 0, .int .i64 0, .slice none 0 0, .slice none 0 0, .int .i64 0, .int .i64 0, .slice none 0 0, .int .i64 0, .int .i64 0, .slice none 0 0, .int .i64 0, .int .i64 0, .slice none 0 0]) D (.slice s1 D c1, fillN fl a_ D) := (owns_base k3 HM.out.fil.below.size).kept (row := none) (grownM_of hB8 _) (by cases (Value.slice s1 D c1).ownBlock <;> simp)
                have hlv : lv.ownBlock ≠ some w8.heap.size := fun e => by have := (HLv.out.lt _ e).2; omega
                have HLb := Lib.hid hlv
                obtain ⟨sN, hsN⟩ : ∃ l, fillN fl a_ D = l := ⟨_, rfl⟩
                rw [hsN] at hR8
                clear k1 k2 k3 hM8 hsz8 hfm hlv hsN hB8
                go_upto_region 21 with fail
                refine genM (Q := fun w => Code.wp _ _ _ _ w) _ (fun W => Lst w cb fb wb w8.heap.size j D H L X I sf cf fl (a_ + D) #[.int .i64 (j : Int), .int .i64 (D : Int), .int .i64 (H : Int), .int .i64 (L : Int), .int .i64 (X : Int), .int .i64 (I : Int), .slice sv j cv, .slice none 0 0, .int .i64 (j : Int), .int .i64 (D : Int), .slice se n0 ce, lv, .slice none 0 0, .int .i64 0, .int .i64 0, .slice none 0 0] #[.slice s1 D c1, .int .i64 0, .int .i64 0, .slice none 0 0, .int .i64 0, .int .i64 0, .slice none 0 0, .int .i64 0, .int .i64 0, .slice none 0 0, .int .i64 0, .int .i64 0, .slice none 0 0, .slice none 0 0, .int .i64 0, .int .i64 0, .slice none 0 0, .int .i64 0, .int .i64 0, .slice none 0 0, .int .i64 0, .int .i64 0, .slice none 0 0] W ∧ Kp w.heap.size w8.heap.size wr W ∧ RowN w.heap.size W D (.slice s1 D c1, sN)) ⟨hL8, hK8, hR8⟩ ?_
                clear hL8 hK8 hR8 q1 q3
                obtain ⟨lb, hlb⟩ : ∃ x, w8.heap.size = x := ⟨_, rfl⟩
                rw [hlb] at HLb ⊢
                clear hlb
                rintro w9 ⟨k1, k2, k3⟩
                have HT := Lib.hid k1
                have HKp := Lib.hid k2
                have HR_n1 := Lib.hid k3
                clear k1 k2 k3
                obtain ⟨_, q1, _, q5⟩ := HT.out.bx.cfg
                have hA0 : a_ + D ≤ 100000 := by omega
                refine wp_region_lit ?_
                refine wpList_vl rfl (.pointer (some ⟨fb, 0, none⟩)) (exec_movM (.tmp 7) rfl _ rfl) ?_
                simp only [Act.put, List.setIfInBounds_toArray, List.set_cons_succ, List.set_cons_zero]
                refine wpList_vl rfl (.pointer (some ⟨cb, 1, none⟩)) (exec_fldM 31 1 (.tmp 6) rfl _ _ rfl (by kernel_rfl)) ?_
                simp only [Act.put, List.setIfInBounds_toArray, List.set_cons_succ, List.set_cons_zero]
                refine wpList_vl rfl (.int .i64 (D : Int)) (Bp.exec_load1 3 (.tmp 168) rfl ⟨cb, 1, none⟩ rfl _ q1 _ Try.underlying3 rfl) ?_
                simp only [Act.put, List.setIfInBounds_toArray, List.set_cons_succ, List.set_cons_zero]
                refine wpList_vl rfl (.pointer (some ⟨cb, 1, none⟩)) (exec_fldM 31 1 (.tmp 6) rfl _ _ rfl (by kernel_rfl)) ?_
                simp only [Act.put, List.setIfInBounds_toArray, List.set_cons_succ, List.set_cons_zero]
                refine wpList_vl rfl (.int .i64 (D : Int)) (Bp.exec_load1 3 (.tmp 170) rfl ⟨cb, 1, none⟩ rfl _ q1 _ Try.underlying3 rfl) ?_
                simp only [Act.put, List.setIfInBounds_toArray, List.set_cons_succ, List.set_cons_zero]
                refine wpList_callM rfl 46 #[.pointer (some ⟨fb, 0, none⟩), .int .i64 (D : Int), .int .i64 (D : Int)] (exec_call3M 46 (.tmp 167) (.tmp 169) (.tmp 171) _ _ _ _ rfl rfl rfl rfl (Tn.cf Try.func46 (by kernel_rfl) (by kernel_rfl) _ _)) (HMx.out _ _ D D nDD hA0 HT.out.bx.fil HDD.out (by omega)) ?_
                rintro e w20 ⟨s_q, c_q, rfl, k1, k2, k3⟩
                refine ⟨_, rfl, ?_⟩
                simp only [Act.put, List.setIfInBounds_toArray, List.set_cons_succ, List.set_cons_zero]
                refine wpList_vl rfl (.pointer (some ⟨lb, 1, none⟩)) (exec_fldM 83 1 (.tmp 11) rfl _ _ rfl (by kernel_rfl)) ?_
                simp only [Act.put, List.setIfInBounds_toArray, List.set_cons_succ, List.set_cons_zero]
                have HU := Lib.hid (HT.out.next k1 k2)
                have HKx := Lib.hid (HT.out.kpN k2)
                have hr_q : RowN w.heap.size w20 nDD (.slice s_q nDD c_q, fillN fl (a_ + D) nDD) := owns_base k3 HT.out.bx.fil.below.size
                obtain ⟨f_q, hf⟩ : ∃ l, fillN fl (a_ + D) nDD = l := ⟨_, rfl⟩
                rw [hf] at hr_q
                have HR_q := Lib.hid hr_q
                clear k1 k2 k3 hf hr_q q1 q5 hA0
                obtain ⟨p1, z1⟩ := HU.out.l 1
                replace p1 : w20.cell? ⟨lb, 1, none⟩ = some (.int .i64 0) := p1
                obtain ⟨p2, z2⟩ := HU.out.l 2
                replace p2 : w20.cell? ⟨lb, 2, none⟩ = some (.int .i64 0) := p2
                obtain ⟨p3, z3⟩ := HU.out.l 3
                replace p3 : w20.cell? ⟨lb, 3, none⟩ = some (.slice none 0 0) := p3
                have HT9 : Hid (Lst w cb fb wb lb j D H L X I sf cf fl (a_ + D + nDD) #[.int .i64 (j : Int), .int .i64 (D : Int), .int .i64 (H : Int), .int .i64 (L : Int), .int .i64 (X : Int), .int .i64 (I : Int), .slice sv j cv, .slice none 0 0, .int .i64 (j : Int), .int .i64 (D : Int), .slice se n0 ce, lv, .slice none 0 0, .int .i64 0, .int .i64 0, .slice none 0 0] #[.slice s1 D c1, .int .i64 (D : Int), .int .i64 (D : Int), .slice s_q nDD c_q, .int .i64 0, .int .i64 0, .slice none 0 0, .int .i64 0, .int .i64 0, .slice none 0 0, .int .i64 0, .int .i64 0, .slice none 0 0, .slice none 0 0, .int .i64 0, .int .i64 0, .slice none 0 0, .int .i64 0, .int .i64 0, .slice none 0 0, .int .i64 0, .int .i64 0, .slice none 0 0] (((w20.setCell ⟨lb, 1, none⟩ (.int .i64 (D : Int))).setCell ⟨lb, 2, none⟩ (.int .i64 (D : Int))).setCell ⟨lb, 3, none⟩ (.slice s_q nDD c_q))) := Lib.hid (((HU.out.put 1 (.int .i64 (D : Int))).put 2 (.int .i64 (D : Int))).put 3 (.slice s_q nDD c_q))
                have HK9 : Hid (Kp w.heap.size lb w20 (((w20.setCell ⟨lb, 1, none⟩ (.int .i64 (D : Int))).setCell ⟨lb, 2, none⟩ (.int .i64 (D : Int))).setCell ⟨lb, 3, none⟩ (.slice s_q nDD c_q))) := Lib.hid (((HU.out.kpP 1 (.int .i64 (D : Int))).trans ((HU.out.put 1 (.int .i64 (D : Int))).kpP 2 (.int .i64 (D : Int)))).trans (((HU.out.put 1 (.int .i64 (D : Int))).put 2 (.int .i64 (D : Int))).kpP 3 (.slice s_q nDD c_q)))
                go_upto_region 22 with fail
                refine genM (Q := fun w => Code.wp _ _ _ _ w) _ (fun W => Lst w cb fb wb lb j D H L X I sf cf fl (a_ + D + nDD) #[.int .i64 (j : Int), .int .i64 (D : Int), .int .i64 (H : Int), .int .i64 (L : Int), .int .i64 (X : Int), .int .i64 (I : Int), .slice sv j cv, .slice none 0 0, .int .i64 (j : Int), .int .i64 (D : Int), .slice se n0 ce, lv, .slice none 0 0, .int .i64 0, .int .i64 0, .slice none 0 0] #[.slice s1 D c1, .int .i64 (D : Int), .int .i64 (D : Int), .slice s_q nDD c_q, .int .i64 0, .int .i64 0, .slice none 0 0, .int .i64 0, .int .i64 0, .slice none 0 0, .int .i64 0, .int .i64 0, .slice none 0 0, .slice none 0 0, .int .i64 0, .int .i64 0, .slice none 0 0, .int .i64 0, .int .i64 0, .slice none 0 0, .int .i64 0, .int .i64 0, .slice none 0 0] W ∧ Kp w.heap.size lb wr W ∧ RowN w.heap.size W D (.slice s1 D c1, sN) ∧ RowN w.heap.size W nDD (.slice s_q nDD c_q, f_q)) ⟨HT9.out, (HKp.out.trans HKx.out).trans HK9.out, HK9.out.num (HKx.out.num HR_n1.out), HK9.out.num HR_q.out⟩ ?_
                clear HT9 HK9 HKx HU HT HKp HR_n1 HR_q p1 p2 p3 z1 z2 z3
                rintro w40 ⟨k1, k2, r_n1, r_q⟩
                have HT := Lib.hid k1
                have HKp := Lib.hid k2
                have HR_n1 := Lib.hid r_n1
                have HR_q := Lib.hid r_q
                clear k1 k2 r_n1 r_q
                obtain ⟨_, q1, _, q5⟩ := HT.out.bx.cfg
                have hA1 : a_ + D + nDD ≤ 100000 := by omega
                refine wp_region_lit ?_
                refine wpList_vl rfl (.pointer (some ⟨fb, 0, none⟩)) (exec_movM (.tmp 7) rfl _ rfl) ?_
                simp only [Act.put, List.setIfInBounds_toArray, List.set_cons_succ, List.set_cons_zero]
                refine wpList_vl rfl (.pointer (some ⟨cb, 1, none⟩)) (exec_fldM 31 1 (.tmp 6) rfl _ _ rfl (by kernel_rfl)) ?_
                simp only [Act.put, List.setIfInBounds_toArray, List.set_cons_succ, List.set_cons_zero]
                refine wpList_vl rfl (.int .i64 (D : Int)) (Bp.exec_load1 3 (.tmp 175) rfl ⟨cb, 1, none⟩ rfl _ q1 _ Try.underlying3 rfl) ?_
                simp only [Act.put, List.setIfInBounds_toArray, List.set_cons_succ, List.set_cons_zero]
                refine wpList_vl rfl (.pointer (some ⟨cb, 1, none⟩)) (exec_fldM 31 1 (.tmp 6) rfl _ _ rfl (by kernel_rfl)) ?_
                simp only [Act.put, List.setIfInBounds_toArray, List.set_cons_succ, List.set_cons_zero]
                refine wpList_vl rfl (.int .i64 (D : Int)) (Bp.exec_load1 3 (.tmp 177) rfl ⟨cb, 1, none⟩ rfl _ q1 _ Try.underlying3 rfl) ?_
                simp only [Act.put, List.setIfInBounds_toArray, List.set_cons_succ, List.set_cons_zero]
                refine wpList_callM rfl 46 #[.pointer (some ⟨fb, 0, none⟩), .int .i64 (D : Int), .int .i64 (D : Int)] (exec_call3M 46 (.tmp 174) (.tmp 176) (.tmp 178) _ _ _ _ rfl rfl rfl rfl (Tn.cf Try.func46 (by kernel_rfl) (by kernel_rfl) _ _)) (HMx.out _ _ D D nDD hA1 HT.out.bx.fil HDD.out (by omega)) ?_
                rintro e w21 ⟨s_k, c_k, rfl, k1, k2, k3⟩
                refine ⟨_, rfl, ?_⟩
                simp only [Act.put, List.setIfInBounds_toArray, List.set_cons_succ, List.set_cons_zero]
                refine wpList_vl rfl (.pointer (some ⟨lb, 4, none⟩)) (exec_fldM 83 2 (.tmp 11) rfl _ _ rfl (by kernel_rfl)) ?_
                simp only [Act.put, List.setIfInBounds_toArray, List.set_cons_succ, List.set_cons_zero]
                have HU := Lib.hid (HT.out.next k1 k2)
                have HKx := Lib.hid (HT.out.kpN k2)
                have hr_k : RowN w.heap.size w21 nDD (.slice s_k nDD c_k, fillN fl (a_ + D + nDD) nDD) := owns_base k3 HT.out.bx.fil.below.size
                obtain ⟨f_k, hf⟩ : ∃ l, fillN fl (a_ + D + nDD) nDD = l := ⟨_, rfl⟩
                rw [hf] at hr_k
                have HR_k := Lib.hid hr_k
                clear k1 k2 k3 hf hr_k q1 q5 hA1
                obtain ⟨p4, z4⟩ := HU.out.l 4
                replace p4 : w21.cell? ⟨lb, 4, none⟩ = some (.int .i64 0) := p4
                obtain ⟨p5, z5⟩ := HU.out.l 5
                replace p5 : w21.cell? ⟨lb, 5, none⟩ = some (.int .i64 0) := p5
                obtain ⟨p6, z6⟩ := HU.out.l 6
                replace p6 : w21.cell? ⟨lb, 6, none⟩ = some (.slice none 0 0) := p6
                have HT9 : Hid (Lst w cb fb wb lb j D H L X I sf cf fl (a_ + D + nDD + nDD) #[.int .i64 (j : Int), .int .i64 (D : Int), .int .i64 (H : Int), .int .i64 (L : Int), .int .i64 (X : Int), .int .i64 (I : Int), .slice sv j cv, .slice none 0 0, .int .i64 (j : Int), .int .i64 (D : Int), .slice se n0 ce, lv, .slice none 0 0, .int .i64 0, .int .i64 0, .slice none 0 0] #[.slice s1 D c1, .int .i64 (D : Int), .int .i64 (D : Int), .slice s_q nDD c_q, .int .i64 (D : Int), .int .i64 (D : Int), .slice s_k nDD c_k, .int .i64 0, .int .i64 0, .slice none 0 0, .int .i64 0, .int .i64 0, .slice none 0 0, .slice none 0 0, .int .i64 0, .int .i64 0, .slice none 0 0, .int .i64 0, .int .i64 0, .slice none 0 0, .int .i64 0, .int .i64 0, .slice none 0 0] (((w21.setCell ⟨lb, 4, none⟩ (.int .i64 (D : Int))).setCell ⟨lb, 5, none⟩ (.int .i64 (D : Int))).setCell ⟨lb, 6, none⟩ (.slice s_k nDD c_k))) := Lib.hid (((HU.out.put 4 (.int .i64 (D : Int))).put 5 (.int .i64 (D : Int))).put 6 (.slice s_k nDD c_k))
                have HK9 : Hid (Kp w.heap.size lb w21 (((w21.setCell ⟨lb, 4, none⟩ (.int .i64 (D : Int))).setCell ⟨lb, 5, none⟩ (.int .i64 (D : Int))).setCell ⟨lb, 6, none⟩ (.slice s_k nDD c_k))) := Lib.hid (((HU.out.kpP 4 (.int .i64 (D : Int))).trans ((HU.out.put 4 (.int .i64 (D : Int))).kpP 5 (.int .i64 (D : Int)))).trans (((HU.out.put 4 (.int .i64 (D : Int))).put 5 (.int .i64 (D : Int))).kpP 6 (.slice s_k nDD c_k)))
                go_upto_region 23 with fail
                refine genM (Q := fun w => Code.wp _ _ _ _ w) _ (fun W => Lst w cb fb wb lb j D H L X I sf cf fl (a_ + D + nDD + nDD) #[.int .i64 (j : Int), .int .i64 (D : Int), .int .i64 (H : Int), .int .i64 (L : Int), .int .i64 (X : Int), .int .i64 (I : Int), .slice sv j cv, .slice none 0 0, .int .i64 (j : Int), .int .i64 (D : Int), .slice se n0 ce, lv, .slice none 0 0, .int .i64 0, .int .i64 0, .slice none 0 0] #[.slice s1 D c1, .int .i64 (D : Int), .int .i64 (D : Int), .slice s_q nDD c_q, .int .i64 (D : Int), .int .i64 (D : Int), .slice s_k nDD c_k, .int .i64 0, .int .i64 0, .slice none 0 0, .int .i64 0, .int .i64 0, .slice none 0 0, .slice none 0 0, .int .i64 0, .int .i64 0, .slice none 0 0, .int .i64 0, .int .i64 0, .slice none 0 0, .int .i64 0, .int .i64 0, .slice none 0 0] W ∧ Kp w.heap.size lb wr W ∧ RowN w.heap.size W D (.slice s1 D c1, sN) ∧ RowN w.heap.size W nDD (.slice s_q nDD c_q, f_q) ∧ RowN w.heap.size W nDD (.slice s_k nDD c_k, f_k)) ⟨HT9.out, (HKp.out.trans HKx.out).trans HK9.out, HK9.out.num (HKx.out.num HR_n1.out), HK9.out.num (HKx.out.num HR_q.out), HK9.out.num HR_k.out⟩ ?_
                clear HT9 HK9 HKx HU HT HKp HR_n1 HR_q HR_k p4 p5 p6 z4 z5 z6
                rintro w41 ⟨k1, k2, r_n1, r_q, r_k⟩
                have HT := Lib.hid k1
                have HKp := Lib.hid k2
                have HR_n1 := Lib.hid r_n1
                have HR_q := Lib.hid r_q
                have HR_k := Lib.hid r_k
                clear k1 k2 r_n1 r_q r_k
                obtain ⟨_, q1, _, q5⟩ := HT.out.bx.cfg
                have hA2 : a_ + D + nDD + nDD ≤ 100000 := by omega
                refine wp_region_lit ?_
                refine wpList_vl rfl (.pointer (some ⟨fb, 0, none⟩)) (exec_movM (.tmp 7) rfl _ rfl) ?_
                simp only [Act.put, List.setIfInBounds_toArray, List.set_cons_succ, List.set_cons_zero]
                refine wpList_vl rfl (.pointer (some ⟨cb, 1, none⟩)) (exec_fldM 31 1 (.tmp 6) rfl _ _ rfl (by kernel_rfl)) ?_
                simp only [Act.put, List.setIfInBounds_toArray, List.set_cons_succ, List.set_cons_zero]
                refine wpList_vl rfl (.int .i64 (D : Int)) (Bp.exec_load1 3 (.tmp 182) rfl ⟨cb, 1, none⟩ rfl _ q1 _ Try.underlying3 rfl) ?_
                simp only [Act.put, List.setIfInBounds_toArray, List.set_cons_succ, List.set_cons_zero]
                refine wpList_vl rfl (.pointer (some ⟨cb, 1, none⟩)) (exec_fldM 31 1 (.tmp 6) rfl _ _ rfl (by kernel_rfl)) ?_
                simp only [Act.put, List.setIfInBounds_toArray, List.set_cons_succ, List.set_cons_zero]
                refine wpList_vl rfl (.int .i64 (D : Int)) (Bp.exec_load1 3 (.tmp 184) rfl ⟨cb, 1, none⟩ rfl _ q1 _ Try.underlying3 rfl) ?_
                simp only [Act.put, List.setIfInBounds_toArray, List.set_cons_succ, List.set_cons_zero]
                refine wpList_callM rfl 46 #[.pointer (some ⟨fb, 0, none⟩), .int .i64 (D : Int), .int .i64 (D : Int)] (exec_call3M 46 (.tmp 181) (.tmp 183) (.tmp 185) _ _ _ _ rfl rfl rfl rfl (Tn.cf Try.func46 (by kernel_rfl) (by kernel_rfl) _ _)) (HMx.out _ _ D D nDD hA2 HT.out.bx.fil HDD.out (by omega)) ?_
                rintro e w22 ⟨s_v, c_v, rfl, k1, k2, k3⟩
                refine ⟨_, rfl, ?_⟩
                simp only [Act.put, List.setIfInBounds_toArray, List.set_cons_succ, List.set_cons_zero]
                refine wpList_vl rfl (.pointer (some ⟨lb, 7, none⟩)) (exec_fldM 83 3 (.tmp 11) rfl _ _ rfl (by kernel_rfl)) ?_
                simp only [Act.put, List.setIfInBounds_toArray, List.set_cons_succ, List.set_cons_zero]
                have HU := Lib.hid (HT.out.next k1 k2)
                have HKx := Lib.hid (HT.out.kpN k2)
                have hr_v : RowN w.heap.size w22 nDD (.slice s_v nDD c_v, fillN fl (a_ + D + nDD + nDD) nDD) := owns_base k3 HT.out.bx.fil.below.size
                obtain ⟨f_v, hf⟩ : ∃ l, fillN fl (a_ + D + nDD + nDD) nDD = l := ⟨_, rfl⟩
                rw [hf] at hr_v
                have HR_v := Lib.hid hr_v
                clear k1 k2 k3 hf hr_v q1 q5 hA2
                obtain ⟨p7, z7⟩ := HU.out.l 7
                replace p7 : w22.cell? ⟨lb, 7, none⟩ = some (.int .i64 0) := p7
                obtain ⟨p8, z8⟩ := HU.out.l 8
                replace p8 : w22.cell? ⟨lb, 8, none⟩ = some (.int .i64 0) := p8
                obtain ⟨p9, z9⟩ := HU.out.l 9
                replace p9 : w22.cell? ⟨lb, 9, none⟩ = some (.slice none 0 0) := p9
                have HT9 : Hid (Lst w cb fb wb lb j D H L X I sf cf fl (a_ + D + nDD + nDD + nDD) #[.int .i64 (j : Int), .int .i64 (D : Int), .int .i64 (H : Int), .int .i64 (L : Int), .int .i64 (X : Int), .int .i64 (I : Int), .slice sv j cv, .slice none 0 0, .int .i64 (j : Int), .int .i64 (D : Int), .slice se n0 ce, lv, .slice none 0 0, .int .i64 0, .int .i64 0, .slice none 0 0] #[.slice s1 D c1, .int .i64 (D : Int), .int .i64 (D : Int), .slice s_q nDD c_q, .int .i64 (D : Int), .int .i64 (D : Int), .slice s_k nDD c_k, .int .i64 (D : Int), .int .i64 (D : Int), .slice s_v nDD c_v, .int .i64 0, .int .i64 0, .slice none 0 0, .slice none 0 0, .int .i64 0, .int .i64 0, .slice none 0 0, .int .i64 0, .int .i64 0, .slice none 0 0, .int .i64 0, .int .i64 0, .slice none 0 0] (((w22.setCell ⟨lb, 7, none⟩ (.int .i64 (D : Int))).setCell ⟨lb, 8, none⟩ (.int .i64 (D : Int))).setCell ⟨lb, 9, none⟩ (.slice s_v nDD c_v))) := Lib.hid (((HU.out.put 7 (.int .i64 (D : Int))).put 8 (.int .i64 (D : Int))).put 9 (.slice s_v nDD c_v))
                have HK9 : Hid (Kp w.heap.size lb w22 (((w22.setCell ⟨lb, 7, none⟩ (.int .i64 (D : Int))).setCell ⟨lb, 8, none⟩ (.int .i64 (D : Int))).setCell ⟨lb, 9, none⟩ (.slice s_v nDD c_v))) := Lib.hid (((HU.out.kpP 7 (.int .i64 (D : Int))).trans ((HU.out.put 7 (.int .i64 (D : Int))).kpP 8 (.int .i64 (D : Int)))).trans (((HU.out.put 7 (.int .i64 (D : Int))).put 8 (.int .i64 (D : Int))).kpP 9 (.slice s_v nDD c_v)))
                go_upto_region 24 with fail
                refine genM (Q := fun w => Code.wp _ _ _ _ w) _ (fun W => Lst w cb fb wb lb j D H L X I sf cf fl (a_ + D + nDD + nDD + nDD) #[.int .i64 (j : Int), .int .i64 (D : Int), .int .i64 (H : Int), .int .i64 (L : Int), .int .i64 (X : Int), .int .i64 (I : Int), .slice sv j cv, .slice none 0 0, .int .i64 (j : Int), .int .i64 (D : Int), .slice se n0 ce, lv, .slice none 0 0, .int .i64 0, .int .i64 0, .slice none 0 0] #[.slice s1 D c1, .int .i64 (D : Int), .int .i64 (D : Int), .slice s_q nDD c_q, .int .i64 (D : Int), .int .i64 (D : Int), .slice s_k nDD c_k, .int .i64 (D : Int), .int .i64 (D : Int), .slice s_v nDD c_v, .int .i64 0, .int .i64 0, .slice none 0 0, .slice none 0 0, .int .i64 0, .int .i64 0, .slice none 0 0, .int .i64 0, .int .i64 0, .slice none 0 0, .int .i64 0, .int .i64 0, .slice none 0 0] W ∧ Kp w.heap.size lb wr W ∧ RowN w.heap.size W D (.slice s1 D c1, sN) ∧ RowN w.heap.size W nDD (.slice s_q nDD c_q, f_q) ∧ RowN w.heap.size W nDD (.slice s_k nDD c_k, f_k) ∧ RowN w.heap.size W nDD (.slice s_v nDD c_v, f_v)) ⟨HT9.out, (HKp.out.trans HKx.out).trans HK9.out, HK9.out.num (HKx.out.num HR_n1.out), HK9.out.num (HKx.out.num HR_q.out), HK9.out.num (HKx.out.num HR_k.out), HK9.out.num HR_v.out⟩ ?_
                clear HT9 HK9 HKx HU HT HKp HR_n1 HR_q HR_k HR_v p7 p8 p9 z7 z8 z9
                rintro w42 ⟨k1, k2, r_n1, r_q, r_k, r_v⟩
                have HT := Lib.hid k1
                have HKp := Lib.hid k2
                have HR_n1 := Lib.hid r_n1
                have HR_q := Lib.hid r_q
                have HR_k := Lib.hid r_k
                have HR_v := Lib.hid r_v
                clear k1 k2 r_n1 r_q r_k r_v
                obtain ⟨_, q1, _, q5⟩ := HT.out.bx.cfg
                have hA3 : a_ + D + nDD + nDD + nDD ≤ 100000 := by omega
                refine wp_region_lit ?_
                refine wpList_vl rfl (.pointer (some ⟨fb, 0, none⟩)) (exec_movM (.tmp 7) rfl _ rfl) ?_
                simp only [Act.put, List.setIfInBounds_toArray, List.set_cons_succ, List.set_cons_zero]
                refine wpList_vl rfl (.pointer (some ⟨cb, 1, none⟩)) (exec_fldM 31 1 (.tmp 6) rfl _ _ rfl (by kernel_rfl)) ?_
                simp only [Act.put, List.setIfInBounds_toArray, List.set_cons_succ, List.set_cons_zero]
                refine wpList_vl rfl (.int .i64 (D : Int)) (Bp.exec_load1 3 (.tmp 189) rfl ⟨cb, 1, none⟩ rfl _ q1 _ Try.underlying3 rfl) ?_
                simp only [Act.put, List.setIfInBounds_toArray, List.set_cons_succ, List.set_cons_zero]
                refine wpList_vl rfl (.pointer (some ⟨cb, 1, none⟩)) (exec_fldM 31 1 (.tmp 6) rfl _ _ rfl (by kernel_rfl)) ?_
                simp only [Act.put, List.setIfInBounds_toArray, List.set_cons_succ, List.set_cons_zero]
                refine wpList_vl rfl (.int .i64 (D : Int)) (Bp.exec_load1 3 (.tmp 191) rfl ⟨cb, 1, none⟩ rfl _ q1 _ Try.underlying3 rfl) ?_
                simp only [Act.put, List.setIfInBounds_toArray, List.set_cons_succ, List.set_cons_zero]
                refine wpList_callM rfl 46 #[.pointer (some ⟨fb, 0, none⟩), .int .i64 (D : Int), .int .i64 (D : Int)] (exec_call3M 46 (.tmp 188) (.tmp 190) (.tmp 192) _ _ _ _ rfl rfl rfl rfl (Tn.cf Try.func46 (by kernel_rfl) (by kernel_rfl) _ _)) (HMx.out _ _ D D nDD hA3 HT.out.bx.fil HDD.out (by omega)) ?_
                rintro e w23 ⟨s_o, c_o, rfl, k1, k2, k3⟩
                refine ⟨_, rfl, ?_⟩
                simp only [Act.put, List.setIfInBounds_toArray, List.set_cons_succ, List.set_cons_zero]
                refine wpList_vl rfl (.pointer (some ⟨lb, 10, none⟩)) (exec_fldM 83 4 (.tmp 11) rfl _ _ rfl (by kernel_rfl)) ?_
                simp only [Act.put, List.setIfInBounds_toArray, List.set_cons_succ, List.set_cons_zero]
                have HU := Lib.hid (HT.out.next k1 k2)
                have HKx := Lib.hid (HT.out.kpN k2)
                have hr_o : RowN w.heap.size w23 nDD (.slice s_o nDD c_o, fillN fl (a_ + D + nDD + nDD + nDD) nDD) := owns_base k3 HT.out.bx.fil.below.size
                obtain ⟨f_o, hf⟩ : ∃ l, fillN fl (a_ + D + nDD + nDD + nDD) nDD = l := ⟨_, rfl⟩
                rw [hf] at hr_o
                have HR_o := Lib.hid hr_o
                clear k1 k2 k3 hf hr_o q1 q5 hA3
                obtain ⟨p10, z10⟩ := HU.out.l 10
                replace p10 : w23.cell? ⟨lb, 10, none⟩ = some (.int .i64 0) := p10
                obtain ⟨p11, z11⟩ := HU.out.l 11
                replace p11 : w23.cell? ⟨lb, 11, none⟩ = some (.int .i64 0) := p11
                obtain ⟨p12, z12⟩ := HU.out.l 12
                replace p12 : w23.cell? ⟨lb, 12, none⟩ = some (.slice none 0 0) := p12
                have HT9 : Hid (Lst w cb fb wb lb j D H L X I sf cf fl (a_ + D + nDD + nDD + nDD + nDD) #[.int .i64 (j : Int), .int .i64 (D : Int), .int .i64 (H : Int), .int .i64 (L : Int), .int .i64 (X : Int), .int .i64 (I : Int), .slice sv j cv, .slice none 0 0, .int .i64 (j : Int), .int .i64 (D : Int), .slice se n0 ce, lv, .slice none 0 0, .int .i64 0, .int .i64 0, .slice none 0 0] #[.slice s1 D c1, .int .i64 (D : Int), .int .i64 (D : Int), .slice s_q nDD c_q, .int .i64 (D : Int), .int .i64 (D : Int), .slice s_k nDD c_k, .int .i64 (D : Int), .int .i64 (D : Int), .slice s_v nDD c_v, .int .i64 (D : Int), .int .i64 (D : Int), .slice s_o nDD c_o, .slice none 0 0, .int .i64 0, .int .i64 0, .slice none 0 0, .int .i64 0, .int .i64 0, .slice none 0 0, .int .i64 0, .int .i64 0, .slice none 0 0] (((w23.setCell ⟨lb, 10, none⟩ (.int .i64 (D : Int))).setCell ⟨lb, 11, none⟩ (.int .i64 (D : Int))).setCell ⟨lb, 12, none⟩ (.slice s_o nDD c_o))) := Lib.hid (((HU.out.put 10 (.int .i64 (D : Int))).put 11 (.int .i64 (D : Int))).put 12 (.slice s_o nDD c_o))
                have HK9 : Hid (Kp w.heap.size lb w23 (((w23.setCell ⟨lb, 10, none⟩ (.int .i64 (D : Int))).setCell ⟨lb, 11, none⟩ (.int .i64 (D : Int))).setCell ⟨lb, 12, none⟩ (.slice s_o nDD c_o))) := Lib.hid (((HU.out.kpP 10 (.int .i64 (D : Int))).trans ((HU.out.put 10 (.int .i64 (D : Int))).kpP 11 (.int .i64 (D : Int)))).trans (((HU.out.put 10 (.int .i64 (D : Int))).put 11 (.int .i64 (D : Int))).kpP 12 (.slice s_o nDD c_o)))
                go_upto_region 25 with fail
                refine genM (Q := fun w => Code.wp _ _ _ _ w) _ (fun W => Lst w cb fb wb lb j D H L X I sf cf fl (a_ + D + nDD + nDD + nDD + nDD) #[.int .i64 (j : Int), .int .i64 (D : Int), .int .i64 (H : Int), .int .i64 (L : Int), .int .i64 (X : Int), .int .i64 (I : Int), .slice sv j cv, .slice none 0 0, .int .i64 (j : Int), .int .i64 (D : Int), .slice se n0 ce, lv, .slice none 0 0, .int .i64 0, .int .i64 0, .slice none 0 0] #[.slice s1 D c1, .int .i64 (D : Int), .int .i64 (D : Int), .slice s_q nDD c_q, .int .i64 (D : Int), .int .i64 (D : Int), .slice s_k nDD c_k, .int .i64 (D : Int), .int .i64 (D : Int), .slice s_v nDD c_v, .int .i64 (D : Int), .int .i64 (D : Int), .slice s_o nDD c_o, .slice none 0 0, .int .i64 0, .int .i64 0, .slice none 0 0, .int .i64 0, .int .i64 0, .slice none 0 0, .int .i64 0, .int .i64 0, .slice none 0 0] W ∧ Kp w.heap.size lb wr W ∧ RowN w.heap.size W D (.slice s1 D c1, sN) ∧ RowN w.heap.size W nDD (.slice s_q nDD c_q, f_q) ∧ RowN w.heap.size W nDD (.slice s_k nDD c_k, f_k) ∧ RowN w.heap.size W nDD (.slice s_v nDD c_v, f_v) ∧ RowN w.heap.size W nDD (.slice s_o nDD c_o, f_o)) ⟨HT9.out, (HKp.out.trans HKx.out).trans HK9.out, HK9.out.num (HKx.out.num HR_n1.out), HK9.out.num (HKx.out.num HR_q.out), HK9.out.num (HKx.out.num HR_k.out), HK9.out.num (HKx.out.num HR_v.out), HK9.out.num HR_o.out⟩ ?_
                clear HT9 HK9 HKx HU HT HKp HR_n1 HR_q HR_k HR_v HR_o p10 p11 p12 z10 z11 z12
                rintro w43 ⟨k1, k2, r_n1, r_q, r_k, r_v, r_o⟩
                have HT := Lib.hid k1
                have HKp := Lib.hid k2
                have HR_n1 := Lib.hid r_n1
                have HR_q := Lib.hid r_q
                have HR_k := Lib.hid r_k
                have HR_v := Lib.hid r_v
                have HR_o := Lib.hid r_o
                clear k1 k2 r_n1 r_q r_k r_v r_o
                obtain ⟨_, q1, _, q5⟩ := HT.out.bx.cfg
                have hA4 : a_ + D + nDD + nDD + nDD + nDD ≤ 100000 := by omega
                refine wp_region_lit ?_
                refine wpList_vl rfl (.pointer (some ⟨fb, 0, none⟩)) (exec_movM (.tmp 7) rfl _ rfl) ?_
                simp only [Act.put, List.setIfInBounds_toArray, List.set_cons_succ, List.set_cons_zero]
                refine wpList_vl rfl (.pointer (some ⟨cb, 1, none⟩)) (exec_fldM 31 1 (.tmp 6) rfl _ _ rfl (by kernel_rfl)) ?_
                simp only [Act.put, List.setIfInBounds_toArray, List.set_cons_succ, List.set_cons_zero]
                refine wpList_vl rfl (.int .i64 (D : Int)) (Bp.exec_load1 3 (.tmp 196) rfl ⟨cb, 1, none⟩ rfl _ q1 _ Try.underlying3 rfl) ?_
                simp only [Act.put, List.setIfInBounds_toArray, List.set_cons_succ, List.set_cons_zero]
                refine wpList_callM rfl 47 #[.pointer (some ⟨fb, 0, none⟩), .int .i64 (D : Int)] (exec_call2M 47 (.tmp 195) (.tmp 197) _ _ _ rfl rfl rfl (Tn.cf Try.func47 (by kernel_rfl) (by kernel_rfl) _ _)) (HNx.out _ _ hA4 HT.out.bx.fil) ?_
                rintro e w24 ⟨s_n2, c_n2, rfl, k1, k2, k3⟩
                refine ⟨_, rfl, ?_⟩
                simp only [Act.put, List.setIfInBounds_toArray, List.set_cons_succ, List.set_cons_zero]
                refine wpList_vl rfl (.pointer (some ⟨lb, 13, none⟩)) (exec_fldM 83 5 (.tmp 11) rfl _ _ rfl (by kernel_rfl)) ?_
                simp only [Act.put, List.setIfInBounds_toArray, List.set_cons_succ, List.set_cons_zero]
                have HU := Lib.hid (HT.out.next k1 k2)
                have HKx := Lib.hid (HT.out.kpN k2)
                have hr_n2 : RowN w.heap.size w24 D (.slice s_n2 D c_n2, fillN fl (a_ + D + nDD + nDD + nDD + nDD) D) := owns_base k3 HT.out.bx.fil.below.size
                obtain ⟨f_n2, hf⟩ : ∃ l, fillN fl (a_ + D + nDD + nDD + nDD + nDD) D = l := ⟨_, rfl⟩
                rw [hf] at hr_n2
                have HR_n2 := Lib.hid hr_n2
                clear k1 k2 k3 hf hr_n2 q1 q5 hA4
                obtain ⟨p13, z13⟩ := HU.out.l 13
                replace p13 : w24.cell? ⟨lb, 13, none⟩ = some (.slice none 0 0) := p13
                have HT9 : Hid (Lst w cb fb wb lb j D H L X I sf cf fl (a_ + D + nDD + nDD + nDD + nDD + D) #[.int .i64 (j : Int), .int .i64 (D : Int), .int .i64 (H : Int), .int .i64 (L : Int), .int .i64 (X : Int), .int .i64 (I : Int), .slice sv j cv, .slice none 0 0, .int .i64 (j : Int), .int .i64 (D : Int), .slice se n0 ce, lv, .slice none 0 0, .int .i64 0, .int .i64 0, .slice none 0 0] #[.slice s1 D c1, .int .i64 (D : Int), .int .i64 (D : Int), .slice s_q nDD c_q, .int .i64 (D : Int), .int .i64 (D : Int), .slice s_k nDD c_k, .int .i64 (D : Int), .int .i64 (D : Int), .slice s_v nDD c_v, .int .i64 (D : Int), .int .i64 (D : Int), .slice s_o nDD c_o, .slice s_n2 D c_n2, .int .i64 0, .int .i64 0, .slice none 0 0, .int .i64 0, .int .i64 0, .slice none 0 0, .int .i64 0, .int .i64 0, .slice none 0 0] (w24.setCell ⟨lb, 13, none⟩ (.slice s_n2 D c_n2))) := Lib.hid (HU.out.put 13 (.slice s_n2 D c_n2))
                have HK9 : Hid (Kp w.heap.size lb w24 (w24.setCell ⟨lb, 13, none⟩ (.slice s_n2 D c_n2))) := Lib.hid (HU.out.kpP 13 (.slice s_n2 D c_n2))
                go_upto_region 26 with fail
                refine genM (Q := fun w => Code.wp _ _ _ _ w) _ (fun W => Lst w cb fb wb lb j D H L X I sf cf fl (a_ + D + nDD + nDD + nDD + nDD + D) #[.int .i64 (j : Int), .int .i64 (D : Int), .int .i64 (H : Int), .int .i64 (L : Int), .int .i64 (X : Int), .int .i64 (I : Int), .slice sv j cv, .slice none 0 0, .int .i64 (j : Int), .int .i64 (D : Int), .slice se n0 ce, lv, .slice none 0 0, .int .i64 0, .int .i64 0, .slice none 0 0] #[.slice s1 D c1, .int .i64 (D : Int), .int .i64 (D : Int), .slice s_q nDD c_q, .int .i64 (D : Int), .int .i64 (D : Int), .slice s_k nDD c_k, .int .i64 (D : Int), .int .i64 (D : Int), .slice s_v nDD c_v, .int .i64 (D : Int), .int .i64 (D : Int), .slice s_o nDD c_o, .slice s_n2 D c_n2, .int .i64 0, .int .i64 0, .slice none 0 0, .int .i64 0, .int .i64 0, .slice none 0 0, .int .i64 0, .int .i64 0, .slice none 0 0] W ∧ Kp w.heap.size lb wr W ∧ RowN w.heap.size W D (.slice s1 D c1, sN) ∧ RowN w.heap.size W nDD (.slice s_q nDD c_q, f_q) ∧ RowN w.heap.size W nDD (.slice s_k nDD c_k, f_k) ∧ RowN w.heap.size W nDD (.slice s_v nDD c_v, f_v) ∧ RowN w.heap.size W nDD (.slice s_o nDD c_o, f_o) ∧ RowN w.heap.size W D (.slice s_n2 D c_n2, f_n2)) ⟨HT9.out, (HKp.out.trans HKx.out).trans HK9.out, HK9.out.num (HKx.out.num HR_n1.out), HK9.out.num (HKx.out.num HR_q.out), HK9.out.num (HKx.out.num HR_k.out), HK9.out.num (HKx.out.num HR_v.out), HK9.out.num (HKx.out.num HR_o.out), HK9.out.num HR_n2.out⟩ ?_
                clear HT9 HK9 HKx HU HT HKp HR_n1 HR_q HR_k HR_v HR_o HR_n2 p13 z13
                rintro w44 ⟨k1, k2, r_n1, r_q, r_k, r_v, r_o, r_n2⟩
                have HT := Lib.hid k1
                have HKp := Lib.hid k2
                have HR_n1 := Lib.hid r_n1
                have HR_q := Lib.hid r_q
                have HR_k := Lib.hid r_k
                have HR_v := Lib.hid r_v
                have HR_o := Lib.hid r_o
                have HR_n2 := Lib.hid r_n2
                clear k1 k2 r_n1 r_q r_k r_v r_o r_n2
                obtain ⟨_, q1, _, q5⟩ := HT.out.bx.cfg
                have hA5 : a_ + D + nDD + nDD + nDD + nDD + D ≤ 100000 := by omega
                refine wp_region_lit ?_
                refine wpList_vl rfl (.pointer (some ⟨fb, 0, none⟩)) (exec_movM (.tmp 7) rfl _ rfl) ?_
                simp only [Act.put, List.setIfInBounds_toArray, List.set_cons_succ, List.set_cons_zero]
                refine wpList_vl rfl (.pointer (some ⟨cb, 5, none⟩)) (exec_fldM 31 5 (.tmp 6) rfl _ _ rfl (by kernel_rfl)) ?_
                simp only [Act.put, List.setIfInBounds_toArray, List.set_cons_succ, List.set_cons_zero]
                refine wpList_vl rfl (.int .i64 (I : Int)) (Bp.exec_load1 3 (.tmp 201) rfl ⟨cb, 5, none⟩ rfl _ q5 _ Try.underlying3 rfl) ?_
                simp only [Act.put, List.setIfInBounds_toArray, List.set_cons_succ, List.set_cons_zero]
                refine wpList_vl rfl (.pointer (some ⟨cb, 1, none⟩)) (exec_fldM 31 1 (.tmp 6) rfl _ _ rfl (by kernel_rfl)) ?_
                simp only [Act.put, List.setIfInBounds_toArray, List.set_cons_succ, List.set_cons_zero]
                refine wpList_vl rfl (.int .i64 (D : Int)) (Bp.exec_load1 3 (.tmp 203) rfl ⟨cb, 1, none⟩ rfl _ q1 _ Try.underlying3 rfl) ?_
                simp only [Act.put, List.setIfInBounds_toArray, List.set_cons_succ, List.set_cons_zero]
                refine wpList_callM rfl 46 #[.pointer (some ⟨fb, 0, none⟩), .int .i64 (I : Int), .int .i64 (D : Int)] (exec_call3M 46 (.tmp 200) (.tmp 202) (.tmp 204) _ _ _ _ rfl rfl rfl rfl (Tn.cf Try.func46 (by kernel_rfl) (by kernel_rfl) _ _)) (HMx.out _ _ I D nID hA5 HT.out.bx.fil HID.out (by omega)) ?_
                rintro e w25 ⟨s_g, c_g, rfl, k1, k2, k3⟩
                refine ⟨_, rfl, ?_⟩
                simp only [Act.put, List.setIfInBounds_toArray, List.set_cons_succ, List.set_cons_zero]
                refine wpList_vl rfl (.pointer (some ⟨lb, 14, none⟩)) (exec_fldM 83 6 (.tmp 11) rfl _ _ rfl (by kernel_rfl)) ?_
                simp only [Act.put, List.setIfInBounds_toArray, List.set_cons_succ, List.set_cons_zero]
                have HU := Lib.hid (HT.out.next k1 k2)
                have HKx := Lib.hid (HT.out.kpN k2)
                have hr_g : RowN w.heap.size w25 nID (.slice s_g nID c_g, fillN fl (a_ + D + nDD + nDD + nDD + nDD + D) nID) := owns_base k3 HT.out.bx.fil.below.size
                obtain ⟨f_g, hf⟩ : ∃ l, fillN fl (a_ + D + nDD + nDD + nDD + nDD + D) nID = l := ⟨_, rfl⟩
                rw [hf] at hr_g
                have HR_g := Lib.hid hr_g
                clear k1 k2 k3 hf hr_g q1 q5 hA5
                obtain ⟨p14, z14⟩ := HU.out.l 14
                replace p14 : w25.cell? ⟨lb, 14, none⟩ = some (.int .i64 0) := p14
                obtain ⟨p15, z15⟩ := HU.out.l 15
                replace p15 : w25.cell? ⟨lb, 15, none⟩ = some (.int .i64 0) := p15
                obtain ⟨p16, z16⟩ := HU.out.l 16
                replace p16 : w25.cell? ⟨lb, 16, none⟩ = some (.slice none 0 0) := p16
                have HT9 : Hid (Lst w cb fb wb lb j D H L X I sf cf fl (a_ + D + nDD + nDD + nDD + nDD + D + nID) #[.int .i64 (j : Int), .int .i64 (D : Int), .int .i64 (H : Int), .int .i64 (L : Int), .int .i64 (X : Int), .int .i64 (I : Int), .slice sv j cv, .slice none 0 0, .int .i64 (j : Int), .int .i64 (D : Int), .slice se n0 ce, lv, .slice none 0 0, .int .i64 0, .int .i64 0, .slice none 0 0] #[.slice s1 D c1, .int .i64 (D : Int), .int .i64 (D : Int), .slice s_q nDD c_q, .int .i64 (D : Int), .int .i64 (D : Int), .slice s_k nDD c_k, .int .i64 (D : Int), .int .i64 (D : Int), .slice s_v nDD c_v, .int .i64 (D : Int), .int .i64 (D : Int), .slice s_o nDD c_o, .slice s_n2 D c_n2, .int .i64 (I : Int), .int .i64 (D : Int), .slice s_g nID c_g, .int .i64 0, .int .i64 0, .slice none 0 0, .int .i64 0, .int .i64 0, .slice none 0 0] (((w25.setCell ⟨lb, 14, none⟩ (.int .i64 (I : Int))).setCell ⟨lb, 15, none⟩ (.int .i64 (D : Int))).setCell ⟨lb, 16, none⟩ (.slice s_g nID c_g))) := Lib.hid (((HU.out.put 14 (.int .i64 (I : Int))).put 15 (.int .i64 (D : Int))).put 16 (.slice s_g nID c_g))
                have HK9 : Hid (Kp w.heap.size lb w25 (((w25.setCell ⟨lb, 14, none⟩ (.int .i64 (I : Int))).setCell ⟨lb, 15, none⟩ (.int .i64 (D : Int))).setCell ⟨lb, 16, none⟩ (.slice s_g nID c_g))) := Lib.hid (((HU.out.kpP 14 (.int .i64 (I : Int))).trans ((HU.out.put 14 (.int .i64 (I : Int))).kpP 15 (.int .i64 (D : Int)))).trans (((HU.out.put 14 (.int .i64 (I : Int))).put 15 (.int .i64 (D : Int))).kpP 16 (.slice s_g nID c_g)))
                go_upto_region 27 with fail
                refine genM (Q := fun w => Code.wp _ _ _ _ w) _ (fun W => Lst w cb fb wb lb j D H L X I sf cf fl (a_ + D + nDD + nDD + nDD + nDD + D + nID) #[.int .i64 (j : Int), .int .i64 (D : Int), .int .i64 (H : Int), .int .i64 (L : Int), .int .i64 (X : Int), .int .i64 (I : Int), .slice sv j cv, .slice none 0 0, .int .i64 (j : Int), .int .i64 (D : Int), .slice se n0 ce, lv, .slice none 0 0, .int .i64 0, .int .i64 0, .slice none 0 0] #[.slice s1 D c1, .int .i64 (D : Int), .int .i64 (D : Int), .slice s_q nDD c_q, .int .i64 (D : Int), .int .i64 (D : Int), .slice s_k nDD c_k, .int .i64 (D : Int), .int .i64 (D : Int), .slice s_v nDD c_v, .int .i64 (D : Int), .int .i64 (D : Int), .slice s_o nDD c_o, .slice s_n2 D c_n2, .int .i64 (I : Int), .int .i64 (D : Int), .slice s_g nID c_g, .int .i64 0, .int .i64 0, .slice none 0 0, .int .i64 0, .int .i64 0, .slice none 0 0] W ∧ Kp w.heap.size lb wr W ∧ RowN w.heap.size W D (.slice s1 D c1, sN) ∧ RowN w.heap.size W nDD (.slice s_q nDD c_q, f_q) ∧ RowN w.heap.size W nDD (.slice s_k nDD c_k, f_k) ∧ RowN w.heap.size W nDD (.slice s_v nDD c_v, f_v) ∧ RowN w.heap.size W nDD (.slice s_o nDD c_o, f_o) ∧ RowN w.heap.size W D (.slice s_n2 D c_n2, f_n2) ∧ RowN w.heap.size W nID (.slice s_g nID c_g, f_g)) ⟨HT9.out, (HKp.out.trans HKx.out).trans HK9.out, HK9.out.num (HKx.out.num HR_n1.out), HK9.out.num (HKx.out.num HR_q.out), HK9.out.num (HKx.out.num HR_k.out), HK9.out.num (HKx.out.num HR_v.out), HK9.out.num (HKx.out.num HR_o.out), HK9.out.num (HKx.out.num HR_n2.out), HK9.out.num HR_g.out⟩ ?_
                clear HT9 HK9 HKx HU HT HKp HR_n1 HR_q HR_k HR_v HR_o HR_n2 HR_g p14 p15 p16 z14 z15 z16
                rintro w45 ⟨k1, k2, r_n1, r_q, r_k, r_v, r_o, r_n2, r_g⟩
                have HT := Lib.hid k1
                have HKp := Lib.hid k2
                have HR_n1 := Lib.hid r_n1
                have HR_q := Lib.hid r_q
                have HR_k := Lib.hid r_k
                have HR_v := Lib.hid r_v
                have HR_o := Lib.hid r_o
                have HR_n2 := Lib.hid r_n2
                have HR_g := Lib.hid r_g
                clear k1 k2 r_n1 r_q r_k r_v r_o r_n2 r_g
                obtain ⟨_, q1, _, q5⟩ := HT.out.bx.cfg
                have hA6 : a_ + D + nDD + nDD + nDD + nDD + D + nID ≤ 100000 := by omega
                refine wp_region_lit ?_
                refine wpList_vl rfl (.pointer (some ⟨fb, 0, none⟩)) (exec_movM (.tmp 7) rfl _ rfl) ?_
                simp only [Act.put, List.setIfInBounds_toArray, List.set_cons_succ, List.set_cons_zero]
                refine wpList_vl rfl (.pointer (some ⟨cb, 5, none⟩)) (exec_fldM 31 5 (.tmp 6) rfl _ _ rfl (by kernel_rfl)) ?_
                simp only [Act.put, List.setIfInBounds_toArray, List.set_cons_succ, List.set_cons_zero]
                refine wpList_vl rfl (.int .i64 (I : Int)) (Bp.exec_load1 3 (.tmp 208) rfl ⟨cb, 5, none⟩ rfl _ q5 _ Try.underlying3 rfl) ?_
                simp only [Act.put, List.setIfInBounds_toArray, List.set_cons_succ, List.set_cons_zero]
                refine wpList_vl rfl (.pointer (some ⟨cb, 1, none⟩)) (exec_fldM 31 1 (.tmp 6) rfl _ _ rfl (by kernel_rfl)) ?_
                simp only [Act.put, List.setIfInBounds_toArray, List.set_cons_succ, List.set_cons_zero]
                refine wpList_vl rfl (.int .i64 (D : Int)) (Bp.exec_load1 3 (.tmp 210) rfl ⟨cb, 1, none⟩ rfl _ q1 _ Try.underlying3 rfl) ?_
                simp only [Act.put, List.setIfInBounds_toArray, List.set_cons_succ, List.set_cons_zero]
                refine wpList_callM rfl 46 #[.pointer (some ⟨fb, 0, none⟩), .int .i64 (I : Int), .int .i64 (D : Int)] (exec_call3M 46 (.tmp 207) (.tmp 209) (.tmp 211) _ _ _ _ rfl rfl rfl rfl (Tn.cf Try.func46 (by kernel_rfl) (by kernel_rfl) _ _)) (HMx.out _ _ I D nID hA6 HT.out.bx.fil HID.out (by omega)) ?_
                rintro e w26 ⟨s_u, c_u, rfl, k1, k2, k3⟩
                refine ⟨_, rfl, ?_⟩
                simp only [Act.put, List.setIfInBounds_toArray, List.set_cons_succ, List.set_cons_zero]
                refine wpList_vl rfl (.pointer (some ⟨lb, 17, none⟩)) (exec_fldM 83 7 (.tmp 11) rfl _ _ rfl (by kernel_rfl)) ?_
                simp only [Act.put, List.setIfInBounds_toArray, List.set_cons_succ, List.set_cons_zero]
                have HU := Lib.hid (HT.out.next k1 k2)
                have HKx := Lib.hid (HT.out.kpN k2)
                have hr_u : RowN w.heap.size w26 nID (.slice s_u nID c_u, fillN fl (a_ + D + nDD + nDD + nDD + nDD + D + nID) nID) := owns_base k3 HT.out.bx.fil.below.size
                obtain ⟨f_u, hf⟩ : ∃ l, fillN fl (a_ + D + nDD + nDD + nDD + nDD + D + nID) nID = l := ⟨_, rfl⟩
                rw [hf] at hr_u
                have HR_u := Lib.hid hr_u
                clear k1 k2 k3 hf hr_u q1 q5 hA6
                obtain ⟨p17, z17⟩ := HU.out.l 17
                replace p17 : w26.cell? ⟨lb, 17, none⟩ = some (.int .i64 0) := p17
                obtain ⟨p18, z18⟩ := HU.out.l 18
                replace p18 : w26.cell? ⟨lb, 18, none⟩ = some (.int .i64 0) := p18
                obtain ⟨p19, z19⟩ := HU.out.l 19
                replace p19 : w26.cell? ⟨lb, 19, none⟩ = some (.slice none 0 0) := p19
                have HT9 : Hid (Lst w cb fb wb lb j D H L X I sf cf fl (a_ + D + nDD + nDD + nDD + nDD + D + nID + nID) #[.int .i64 (j : Int), .int .i64 (D : Int), .int .i64 (H : Int), .int .i64 (L : Int), .int .i64 (X : Int), .int .i64 (I : Int), .slice sv j cv, .slice none 0 0, .int .i64 (j : Int), .int .i64 (D : Int), .slice se n0 ce, lv, .slice none 0 0, .int .i64 0, .int .i64 0, .slice none 0 0] #[.slice s1 D c1, .int .i64 (D : Int), .int .i64 (D : Int), .slice s_q nDD c_q, .int .i64 (D : Int), .int .i64 (D : Int), .slice s_k nDD c_k, .int .i64 (D : Int), .int .i64 (D : Int), .slice s_v nDD c_v, .int .i64 (D : Int), .int .i64 (D : Int), .slice s_o nDD c_o, .slice s_n2 D c_n2, .int .i64 (I : Int), .int .i64 (D : Int), .slice s_g nID c_g, .int .i64 (I : Int), .int .i64 (D : Int), .slice s_u nID c_u, .int .i64 0, .int .i64 0, .slice none 0 0] (((w26.setCell ⟨lb, 17, none⟩ (.int .i64 (I : Int))).setCell ⟨lb, 18, none⟩ (.int .i64 (D : Int))).setCell ⟨lb, 19, none⟩ (.slice s_u nID c_u))) := Lib.hid (((HU.out.put 17 (.int .i64 (I : Int))).put 18 (.int .i64 (D : Int))).put 19 (.slice s_u nID c_u))
                have HK9 : Hid (Kp w.heap.size lb w26 (((w26.setCell ⟨lb, 17, none⟩ (.int .i64 (I : Int))).setCell ⟨lb, 18, none⟩ (.int .i64 (D : Int))).setCell ⟨lb, 19, none⟩ (.slice s_u nID c_u))) := Lib.hid (((HU.out.kpP 17 (.int .i64 (I : Int))).trans ((HU.out.put 17 (.int .i64 (I : Int))).kpP 18 (.int .i64 (D : Int)))).trans (((HU.out.put 17 (.int .i64 (I : Int))).put 18 (.int .i64 (D : Int))).kpP 19 (.slice s_u nID c_u)))
                go_upto_region 28 with fail
                refine genM (Q := fun w => Code.wp _ _ _ _ w) _ (fun W => Lst w cb fb wb lb j D H L X I sf cf fl (a_ + D + nDD + nDD + nDD + nDD + D + nID + nID) #[.int .i64 (j : Int), .int .i64 (D : Int), .int .i64 (H : Int), .int .i64 (L : Int), .int .i64 (X : Int), .int .i64 (I : Int), .slice sv j cv, .slice none 0 0, .int .i64 (j : Int), .int .i64 (D : Int), .slice se n0 ce, lv, .slice none 0 0, .int .i64 0, .int .i64 0, .slice none 0 0] #[.slice s1 D c1, .int .i64 (D : Int), .int .i64 (D : Int), .slice s_q nDD c_q, .int .i64 (D : Int), .int .i64 (D : Int), .slice s_k nDD c_k, .int .i64 (D : Int), .int .i64 (D : Int), .slice s_v nDD c_v, .int .i64 (D : Int), .int .i64 (D : Int), .slice s_o nDD c_o, .slice s_n2 D c_n2, .int .i64 (I : Int), .int .i64 (D : Int), .slice s_g nID c_g, .int .i64 (I : Int), .int .i64 (D : Int), .slice s_u nID c_u, .int .i64 0, .int .i64 0, .slice none 0 0] W ∧ Kp w.heap.size lb wr W ∧ RowN w.heap.size W D (.slice s1 D c1, sN) ∧ RowN w.heap.size W nDD (.slice s_q nDD c_q, f_q) ∧ RowN w.heap.size W nDD (.slice s_k nDD c_k, f_k) ∧ RowN w.heap.size W nDD (.slice s_v nDD c_v, f_v) ∧ RowN w.heap.size W nDD (.slice s_o nDD c_o, f_o) ∧ RowN w.heap.size W D (.slice s_n2 D c_n2, f_n2) ∧ RowN w.heap.size W nID (.slice s_g nID c_g, f_g) ∧ RowN w.heap.size W nID (.slice s_u nID c_u, f_u)) ⟨HT9.out, (HKp.out.trans HKx.out).trans HK9.out, HK9.out.num (HKx.out.num HR_n1.out), HK9.out.num (HKx.out.num HR_q.out), HK9.out.num (HKx.out.num HR_k.out), HK9.out.num (HKx.out.num HR_v.out), HK9.out.num (HKx.out.num HR_o.out), HK9.out.num (HKx.out.num HR_n2.out), HK9.out.num (HKx.out.num HR_g.out), HK9.out.num HR_u.out⟩ ?_
                clear HT9 HK9 HKx HU HT HKp HR_n1 HR_q HR_k HR_v HR_o HR_n2 HR_g HR_u p17 p18 p19 z17 z18 z19
                rintro w46 ⟨k1, k2, r_n1, r_q, r_k, r_v, r_o, r_n2, r_g, r_u⟩
                have HT := Lib.hid k1
                have HKp := Lib.hid k2
                have HR_n1 := Lib.hid r_n1
                have HR_q := Lib.hid r_q
                have HR_k := Lib.hid r_k
                have HR_v := Lib.hid r_v
                have HR_o := Lib.hid r_o
                have HR_n2 := Lib.hid r_n2
                have HR_g := Lib.hid r_g
                have HR_u := Lib.hid r_u
                clear k1 k2 r_n1 r_q r_k r_v r_o r_n2 r_g r_u
                obtain ⟨_, q1, _, q5⟩ := HT.out.bx.cfg
                have hA7 : a_ + D + nDD + nDD + nDD + nDD + D + nID + nID ≤ 100000 := by omega
                refine wp_region_lit ?_
                refine wpList_vl rfl (.pointer (some ⟨fb, 0, none⟩)) (exec_movM (.tmp 7) rfl _ rfl) ?_
                simp only [Act.put, List.setIfInBounds_toArray, List.set_cons_succ, List.set_cons_zero]
                refine wpList_vl rfl (.pointer (some ⟨cb, 1, none⟩)) (exec_fldM 31 1 (.tmp 6) rfl _ _ rfl (by kernel_rfl)) ?_
                simp only [Act.put, List.setIfInBounds_toArray, List.set_cons_succ, List.set_cons_zero]
                refine wpList_vl rfl (.int .i64 (D : Int)) (Bp.exec_load1 3 (.tmp 215) rfl ⟨cb, 1, none⟩ rfl _ q1 _ Try.underlying3 rfl) ?_
                simp only [Act.put, List.setIfInBounds_toArray, List.set_cons_succ, List.set_cons_zero]
                refine wpList_vl rfl (.pointer (some ⟨cb, 5, none⟩)) (exec_fldM 31 5 (.tmp 6) rfl _ _ rfl (by kernel_rfl)) ?_
                simp only [Act.put, List.setIfInBounds_toArray, List.set_cons_succ, List.set_cons_zero]
                refine wpList_vl rfl (.int .i64 (I : Int)) (Bp.exec_load1 3 (.tmp 217) rfl ⟨cb, 5, none⟩ rfl _ q5 _ Try.underlying3 rfl) ?_
                simp only [Act.put, List.setIfInBounds_toArray, List.set_cons_succ, List.set_cons_zero]
                refine wpList_callM rfl 46 #[.pointer (some ⟨fb, 0, none⟩), .int .i64 (D : Int), .int .i64 (I : Int)] (exec_call3M 46 (.tmp 214) (.tmp 216) (.tmp 218) _ _ _ _ rfl rfl rfl rfl (Tn.cf Try.func46 (by kernel_rfl) (by kernel_rfl) _ _)) (HMx.out _ _ D I nDI hA7 HT.out.bx.fil HDI.out (by omega)) ?_
                rintro e w27 ⟨s_d, c_d, rfl, k1, k2, k3⟩
                refine ⟨_, rfl, ?_⟩
                simp only [Act.put, List.setIfInBounds_toArray, List.set_cons_succ, List.set_cons_zero]
                refine wpList_vl rfl (.pointer (some ⟨lb, 20, none⟩)) (exec_fldM 83 8 (.tmp 11) rfl _ _ rfl (by kernel_rfl)) ?_
                simp only [Act.put, List.setIfInBounds_toArray, List.set_cons_succ, List.set_cons_zero]
                have HU := Lib.hid (HT.out.next k1 k2)
                have HKx := Lib.hid (HT.out.kpN k2)
                have hr_d : RowN w.heap.size w27 nDI (.slice s_d nDI c_d, fillN fl (a_ + D + nDD + nDD + nDD + nDD + D + nID + nID) nDI) := owns_base k3 HT.out.bx.fil.below.size
                obtain ⟨f_d, hf⟩ : ∃ l, fillN fl (a_ + D + nDD + nDD + nDD + nDD + D + nID + nID) nDI = l := ⟨_, rfl⟩
                rw [hf] at hr_d
                have HR_d := Lib.hid hr_d
                clear k1 k2 k3 hf hr_d q1 q5 hA7
                obtain ⟨p20, z20⟩ := HU.out.l 20
                replace p20 : w27.cell? ⟨lb, 20, none⟩ = some (.int .i64 0) := p20
                obtain ⟨p21, z21⟩ := HU.out.l 21
                replace p21 : w27.cell? ⟨lb, 21, none⟩ = some (.int .i64 0) := p21
                obtain ⟨p22, z22⟩ := HU.out.l 22
                replace p22 : w27.cell? ⟨lb, 22, none⟩ = some (.slice none 0 0) := p22
                have HT9 : Hid (Lst w cb fb wb lb j D H L X I sf cf fl (a_ + D + nDD + nDD + nDD + nDD + D + nID + nID + nDI) #[.int .i64 (j : Int), .int .i64 (D : Int), .int .i64 (H : Int), .int .i64 (L : Int), .int .i64 (X : Int), .int .i64 (I : Int), .slice sv j cv, .slice none 0 0, .int .i64 (j : Int), .int .i64 (D : Int), .slice se n0 ce, lv, .slice none 0 0, .int .i64 0, .int .i64 0, .slice none 0 0] #[.slice s1 D c1, .int .i64 (D : Int), .int .i64 (D : Int), .slice s_q nDD c_q, .int .i64 (D : Int), .int .i64 (D : Int), .slice s_k nDD c_k, .int .i64 (D : Int), .int .i64 (D : Int), .slice s_v nDD c_v, .int .i64 (D : Int), .int .i64 (D : Int), .slice s_o nDD c_o, .slice s_n2 D c_n2, .int .i64 (I : Int), .int .i64 (D : Int), .slice s_g nID c_g, .int .i64 (I : Int), .int .i64 (D : Int), .slice s_u nID c_u, .int .i64 (D : Int), .int .i64 (I : Int), .slice s_d nDI c_d] (((w27.setCell ⟨lb, 20, none⟩ (.int .i64 (D : Int))).setCell ⟨lb, 21, none⟩ (.int .i64 (I : Int))).setCell ⟨lb, 22, none⟩ (.slice s_d nDI c_d))) := Lib.hid (((HU.out.put 20 (.int .i64 (D : Int))).put 21 (.int .i64 (I : Int))).put 22 (.slice s_d nDI c_d))
                have HK9 : Hid (Kp w.heap.size lb w27 (((w27.setCell ⟨lb, 20, none⟩ (.int .i64 (D : Int))).setCell ⟨lb, 21, none⟩ (.int .i64 (I : Int))).setCell ⟨lb, 22, none⟩ (.slice s_d nDI c_d))) := Lib.hid (((HU.out.kpP 20 (.int .i64 (D : Int))).trans ((HU.out.put 20 (.int .i64 (D : Int))).kpP 21 (.int .i64 (I : Int)))).trans (((HU.out.put 20 (.int .i64 (D : Int))).put 21 (.int .i64 (I : Int))).kpP 22 (.slice s_d nDI c_d)))
                go_upto_region 29 with fail
                refine genM (Q := fun w => Code.wp _ _ _ _ w) _ (fun W => Lst w cb fb wb lb j D H L X I sf cf fl (a_ + D + nDD + nDD + nDD + nDD + D + nID + nID + nDI) #[.int .i64 (j : Int), .int .i64 (D : Int), .int .i64 (H : Int), .int .i64 (L : Int), .int .i64 (X : Int), .int .i64 (I : Int), .slice sv j cv, .slice none 0 0, .int .i64 (j : Int), .int .i64 (D : Int), .slice se n0 ce, lv, .slice none 0 0, .int .i64 0, .int .i64 0, .slice none 0 0] #[.slice s1 D c1, .int .i64 (D : Int), .int .i64 (D : Int), .slice s_q nDD c_q, .int .i64 (D : Int), .int .i64 (D : Int), .slice s_k nDD c_k, .int .i64 (D : Int), .int .i64 (D : Int), .slice s_v nDD c_v, .int .i64 (D : Int), .int .i64 (D : Int), .slice s_o nDD c_o, .slice s_n2 D c_n2, .int .i64 (I : Int), .int .i64 (D : Int), .slice s_g nID c_g, .int .i64 (I : Int), .int .i64 (D : Int), .slice s_u nID c_u, .int .i64 (D : Int), .int .i64 (I : Int), .slice s_d nDI c_d] W ∧ Kp w.heap.size lb wr W ∧ RowN w.heap.size W D (.slice s1 D c1, sN) ∧ RowN w.heap.size W nDD (.slice s_q nDD c_q, f_q) ∧ RowN w.heap.size W nDD (.slice s_k nDD c_k, f_k) ∧ RowN w.heap.size W nDD (.slice s_v nDD c_v, f_v) ∧ RowN w.heap.size W nDD (.slice s_o nDD c_o, f_o) ∧ RowN w.heap.size W D (.slice s_n2 D c_n2, f_n2) ∧ RowN w.heap.size W nID (.slice s_g nID c_g, f_g) ∧ RowN w.heap.size W nID (.slice s_u nID c_u, f_u) ∧ RowN w.heap.size W nDI (.slice s_d nDI c_d, f_d)) ⟨HT9.out, (HKp.out.trans HKx.out).trans HK9.out, HK9.out.num (HKx.out.num HR_n1.out), HK9.out.num (HKx.out.num HR_q.out), HK9.out.num (HKx.out.num HR_k.out), HK9.out.num (HKx.out.num HR_v.out), HK9.out.num (HKx.out.num HR_o.out), HK9.out.num (HKx.out.num HR_n2.out), HK9.out.num (HKx.out.num HR_g.out), HK9.out.num (HKx.out.num HR_u.out), HK9.out.num HR_d.out⟩ ?_
                clear HT9 HK9 HKx HU HT HKp HR_n1 HR_q HR_k HR_v HR_o HR_n2 HR_g HR_u HR_d p20 p21 p22 z20 z21 z22
                rintro w47 ⟨k1, k2, r_n1, r_q, r_k, r_v, r_o, r_n2, r_g, r_u, r_d⟩
                have HT := Lib.hid k1
                have HKp := Lib.hid k2
                have HR_n1 := Lib.hid r_n1
                have HR_q := Lib.hid r_q
                have HR_k := Lib.hid r_k
                have HR_v := Lib.hid r_v
                have HR_o := Lib.hid r_o
                have HR_n2 := Lib.hid r_n2
                have HR_g := Lib.hid r_g
                have HR_u := Lib.hid r_u
                have HR_d := Lib.hid r_d
                clear k1 k2 r_n1 r_q r_k r_v r_o r_n2 r_g r_u r_d
                obtain ⟨q11, z11⟩ := HT.out.bx.w 11
                replace q11 : w47.cell? ⟨wb, 11, none⟩ = some lv := q11
                have HL47 := Lib.hid (HKp.out _ _ _ _ _ (Or.inr (Or.inr ⟨rfl, HLb.out⟩)) HLv.out)
                have hA8 : (a_ + D + nDD + nDD + nDD + nDD + D + nID + nID + nDI) ≤ 48 + (y + 1) * 120 := by omega
                have hy1 : y ≤ 1000 := by omega
                refine wp_region_lit ?_
                refine wpList_vl rfl (.pointer (some ⟨wb, 11, none⟩)) (exec_fldM 38 4 (.tmp 8) rfl _ _ rfl (by kernel_rfl)) ?_
                simp only [Act.put, List.setIfInBounds_toArray, List.set_cons_succ, List.set_cons_zero]
                refine wpList_vl rfl lv (Bp.exec_load1 36 (.tmp 221) rfl ⟨wb, 11, none⟩ rfl _ q11 _ Try.underlying36 rfl) ?_
                simp only [Act.put, List.setIfInBounds_toArray, List.set_cons_succ, List.set_cons_zero]
                refine wpList_vl rfl (.agg #[.slice s1 D c1, .int .i64 (D : Int), .int .i64 (D : Int), .slice s_q nDD c_q, .int .i64 (D : Int), .int .i64 (D : Int), .slice s_k nDD c_k, .int .i64 (D : Int), .int .i64 (D : Int), .slice s_v nDD c_v, .int .i64 (D : Int), .int .i64 (D : Int), .slice s_o nDD c_o, .slice s_n2 D c_n2, .int .i64 (I : Int), .int .i64 (D : Int), .slice s_g nID c_g, .int .i64 (I : Int), .int .i64 (D : Int), .slice s_u nID c_u, .int .i64 (D : Int), .int .i64 (I : Int), .slice s_d nDI c_d]) (load_rowL (.tmp 11) rfl lb rfl _ rfl HT.out.lrow) ?_
                simp only [Act.put, List.setIfInBounds_toArray, List.set_cons_succ, List.set_cons_zero]
                refine wpList_wM rfl (.slice (some ⟨w47.heap.size, 0, none⟩) 1 1) _ (exec_oneL (.tmp 223) rfl _ _ _ _ _ _ _ _ _ _ _ _ _ _ _ _ _ _ _ _ _ _ _ rfl) ?_
                simp only [Act.put, List.setIfInBounds_toArray, List.set_cons_succ, List.set_cons_zero]
                refine wpList_pushL rfl (.tmp 222) (.tmp 224) rfl w.heap.size lv y (Ls.flatMap (LayV.cells D I)) [.slice s1 D c1, .int .i64 (D : Int), .int .i64 (D : Int), .slice s_q nDD c_q, .int .i64 (D : Int), .int .i64 (D : Int), .slice s_k nDD c_k, .int .i64 (D : Int), .int .i64 (D : Int), .slice s_v nDD c_v, .int .i64 (D : Int), .int .i64 (D : Int), .slice s_o nDD c_o, .slice s_n2 D c_n2, .int .i64 (I : Int), .int .i64 (D : Int), .slice s_g nID c_g, .int .i64 (I : Int), .int .i64 (D : Int), .slice s_u nID c_u, .int .i64 (D : Int), .int .i64 (I : Int), .slice s_d nDI c_d] rfl HL47.out rfl (by intro u hu; simp only [List.mem_cons, List.not_mem_nil, or_false] at hu; rcases hu with rfl | rfl | rfl | rfl | rfl | rfl | rfl | rfl | rfl | rfl | rfl | rfl | rfl | rfl | rfl | rfl | rfl | rfl | rfl | rfl | rfl | rfl | rfl <;> rfl) rfl hy1 HT.out.bx.fil.below.size ?_
                intro sq cq w50 k1 k2
                simp only [Act.put, List.setIfInBounds_toArray, List.set_cons_succ, List.set_cons_zero]
                refine wpList_vl rfl (.pointer (some ⟨wb, 11, none⟩)) (exec_fldM 38 4 (.tmp 8) rfl _ _ rfl (by kernel_rfl)) ?_
                simp only [Act.put, List.setIfInBounds_toArray, List.set_cons_succ, List.set_cons_zero]
                have hM50 := HT.out.bx.grown k2 (HT.out.bx.far HL47.out (by decide) (by decide) (by decide))
                have hKl := keep_lay HL47.out k2
                have hst : ∀ (e k n : Nat) (v : Value) (xs : List Value), e = 3 ∨ e = 5 ∨ e = 83 → w50.ownsRow w.heap.size e k v n xs → (w50.setCell ⟨wb, 11, none⟩ (.slice sq (y + 1) cq)).ownsRow w.heap.size e k v n xs := fun e k n v xs he ho => ho.kept (grownM_set _ _ _ _) (Or.inr fun e1 => (hM50.far ho (by rcases he with rfl | rfl | rfl <;> decide) (by rcases he with rfl | rfl | rfl <;> decide) (by rcases he with rfl | rfl | rfl <;> decide) _ e1).2.2.2 rfl)
                have hnum : ∀ (n : Nat) (r : Value × List Int), RowN w.heap.size w47 n r → RowN w.heap.size (w50.setCell ⟨wb, 11, none⟩ (.slice sq (y + 1) cq)) n r := fun n r hr => hst 3 1 n _ _ (Or.inl rfl) (hKl 3 1 n _ _ (Or.inl rfl) hr)
                have HP := Lib.hid (hM50.put 11 (.slice sq (y + 1) cq))
                have HA9 := Lib.hid (hst _ _ _ _ _ (Or.inr (Or.inl rfl)) (hKl _ _ _ _ _ (Or.inr rfl) (HKp.out _ _ _ _ _ (Or.inr (Or.inl rfl)) HA.out)))
                have HE9 := Lib.hid (hnum _ _ (HKp.out.num HE.out))
                have HL9 := Lib.hid (hst _ _ _ _ _ (Or.inr (Or.inr rfl)) k1)
                have HX9 : Hid (∀ x ∈ Ls ++ [(⟨(.slice s1 D c1, sN), (.slice s_q nDD c_q, f_q), (.slice s_k nDD c_k, f_k), (.slice s_v nDD c_v, f_v), (.slice s_o nDD c_o, f_o), (.slice s_n2 D c_n2, f_n2), (.slice s_g nID c_g, f_g), (.slice s_u nID c_u, f_u), (.slice s_d nDI c_d, f_d)⟩ : LayV)], x.own w.heap.size (w50.setCell ⟨wb, 11, none⟩ (.slice sq (y + 1) cq)) D I) := Lib.hid fun x hx => by
                  rcases List.mem_append.1 hx with hx | hx
                  · have h9 := HKp.out.lay (HLs.out x hx)
                    exact ⟨hnum _ _ h9.n1, hnum _ _ h9.q, hnum _ _ h9.k, hnum _ _ h9.v, hnum _ _ h9.o, hnum _ _ h9.n2, hnum _ _ h9.g, hnum _ _ h9.u, hnum _ _ h9.d⟩
                  · obtain rfl := List.mem_singleton.1 hx
                    exact ⟨hnum _ _ HR_n1.out, by rw [HDD.out]; exact hnum _ _ HR_q.out, by rw [HDD.out]; exact hnum _ _ HR_k.out, by rw [HDD.out]; exact hnum _ _ HR_v.out, by rw [HDD.out]; exact hnum _ _ HR_o.out, hnum _ _ HR_n2.out, by rw [HID.out]; exact hnum _ _ HR_g.out, by rw [HID.out]; exact hnum _ _ HR_u.out, by rw [HDI.out]; exact hnum _ _ HR_d.out⟩
                obtain ⟨p11, y11⟩ := hM50.w 11
                replace p11 : w50.cell? ⟨wb, 11, none⟩ = some lv := p11
                clear hM50 hKl hst hnum k1 k2 q11 z11
                go_wp2
                go_roundw
                case rel => exact ⟨y + 1, (a_ + D + nDD + nDD + nDD + nDD + D + nID + nID + nDI), .slice sq (y + 1) cq, Ls ++ [⟨(.slice s1 D c1, sN), (.slice s_q nDD c_q, f_q), (.slice s_k nDD c_k, f_k), (.slice s_v nDD c_v, f_v), (.slice s_o nDD c_o, f_o), (.slice s_n2 D c_n2, f_n2), (.slice s_g nID c_g, f_g), (.slice s_u nID c_u, f_u), (.slice s_d nDI c_d, f_d)⟩], by omega, by go_num, hA8, HP.out, HA9.out, HE9.out, by rw [List.length_append, HLn.out]; rfl, by rw [flat_snoc]; exact HL9.out, HX9.out⟩
                case measure => simp [intOf]; omega
              · obtain rfl : y = L := by omega
                have e1 : decide (y < y) = false := by simp
                have e2 : decide ((y : Int) < (y : Int)) = false := by simp
                have ha2 : a_ ≤ 300 := by omega
                have hfl1 : 1 ≤ fl.length := by rw [HFl.out]; exact g6.1
                have hfl2 : fl.length ≤ 80 := by rw [HFl.out]; exact g6.2
                have hD4 := g1.2
                have hA1 : a_ ≤ 100000 := by omega
                have hA2 : a_ + D ≤ 100000 := by omega
                have hn2 : n0 ≤ 1000 := by omega
                have hD2 : D ≤ 1000 := by omega
                have HNx := Lib.hid fun (W : World) (hF : Fil w fb sf cf fl a_ W) => next_any HN.out hfl1 hfl2 W hF hA1 D hD2
                have HMx := Lib.hid fun (W : World) (hF : Fil w fb sf cf fl (a_ + D) W) => matrix_any HN.out hfl1 hfl2 W hF hA2 j D n0 HN0.out hn2
                clear hfl1 hfl2 hA1 hA2 hn2 hD2
                go_upto_region 30 with fail
                refine wp_region_lit ?_
                refine wpList_vl rfl (.pointer (some ⟨fb, 0, none⟩)) (exec_movM (.tmp 7) rfl _ rfl) ?_
                simp only [Act.put, List.setIfInBounds_toArray, List.set_cons_succ, List.set_cons_zero]
                refine wpList_vl rfl (.pointer (some ⟨cb, 1, none⟩)) (exec_fldM 31 1 (.tmp 6) rfl _ _ rfl (by kernel_rfl)) ?_
                simp only [Act.put, List.setIfInBounds_toArray, List.set_cons_succ, List.set_cons_zero]
                refine wpList_vl rfl (.int .i64 (D : Int)) (Bp.exec_load1 3 (.tmp 228) rfl ⟨cb, 1, none⟩ rfl _ q1 _ Try.underlying3 rfl) ?_
                simp only [Act.put, List.setIfInBounds_toArray, List.set_cons_succ, List.set_cons_zero]
                refine wpList_callM rfl 47 #[.pointer (some ⟨fb, 0, none⟩), .int .i64 (D : Int)] (exec_call2M 47 (.tmp 227) (.tmp 229) _ _ _ rfl rfl rfl (Tn.cf Try.func47 (by kernel_rfl) (by kernel_rfl) _ _)) (HNx.out _ HM.out.fil) ?_
                rintro e w60 ⟨sn, cn, rfl, k1, k2, k3⟩
                refine ⟨_, rfl, ?_⟩
                simp only [Act.put, List.setIfInBounds_toArray, List.set_cons_succ, List.set_cons_zero]
                refine wpList_vl rfl (.pointer (some ⟨wb, 12, none⟩)) (exec_fldM 38 5 (.tmp 8) rfl _ _ rfl (by kernel_rfl)) ?_
                simp only [Act.put, List.setIfInBounds_toArray, List.set_cons_succ, List.set_cons_zero]
                have hM60 := HM.out.next k1 k2
                obtain ⟨q12, z12⟩ := hM60.w 12
                replace q12 : w60.cell? ⟨wb, 12, none⟩ = some (.slice none 0 0) := q12
                have HM61 := Lib.hid (hM60.put 12 (.slice sn D cn))
                have hr_nm : RowN w.heap.size w60 D (.slice sn D cn, fillN fl a_ D) := owns_base k3 HM.out.fil.below.size
                have HK61 : Hid (∀ (e k n : Nat) (v : Value) (xs : List Value), e = 3 ∨ e = 5 ∨ e = 83 → w60.ownsRow w.heap.size e k v n xs → (w60.setCell ⟨wb, 12, none⟩ (.slice sn D cn)).ownsRow w.heap.size e k v n xs) := Lib.hid fun e k n v xs he ho => ho.kept (grownM_set _ _ _ _) (Or.inr fun e1 => (hM60.far ho (by rcases he with rfl | rfl | rfl <;> decide) (by rcases he with rfl | rfl | rfl <;> decide) (by rcases he with rfl | rfl | rfl <;> decide) _ e1).2.2.2 rfl)
                have HK60 : Hid (∀ (e k n : Nat) (v : Value) (xs : List Value), e = 3 ∨ e = 5 ∨ e = 83 → wr.ownsRow w.heap.size e k v n xs → w60.ownsRow w.heap.size e k v n xs) := Lib.hid fun e k n v xs he ho => ho.kept k2 (Or.inr fun e1 => (HM.out.far ho (by rcases he with rfl | rfl | rfl <;> decide) (by rcases he with rfl | rfl | rfl <;> decide) (by rcases he with rfl | rfl | rfl <;> decide) _ e1).2.2.1 rfl)
                have HRn := Lib.hid hr_nm
                clear k1 k2 k3 hM60 hr_nm q0 q1 q3 q5
                go_upto_region 31 with fail
                refine genM (Q := fun w => Code.wp _ _ _ _ w) _ (fun W => Mk w cb fb wb j D H y X I sf cf fl (a_ + D) #[.int .i64 (j : Int), .int .i64 (D : Int), .int .i64 (H : Int), .int .i64 (y : Int), .int .i64 (X : Int), .int .i64 (I : Int), .slice sv j cv, .slice none 0 0, .int .i64 (j : Int), .int .i64 (D : Int), .slice se n0 ce, lv, .slice sn D cn, .int .i64 0, .int .i64 0, .slice none 0 0] W ∧ (∀ (e k n : Nat) (v : Value) (xs : List Value), e = 3 ∨ e = 5 ∨ e = 83 → wr.ownsRow w.heap.size e k v n xs → W.ownsRow w.heap.size e k v n xs) ∧ RowN w.heap.size W D (.slice sn D cn, fillN fl a_ D)) ⟨HM61.out, fun e k n v xs he ho => HK61.out _ _ _ _ _ he (HK60.out _ _ _ _ _ he ho), HK61.out _ _ _ _ _ (Or.inl rfl) HRn.out⟩ ?_
                clear HM61 HK61 HK60 HRn q12 z12
                rintro w62 ⟨k1, k2, k3⟩
                obtain ⟨q0, q1, _, _⟩ := k1.cfg
                have HM62 := Lib.hid k1
                have HK62 := Lib.hid k2
                have HRn := Lib.hid k3
                clear k1 k2 k3
                refine wp_region_lit ?_
                refine wpList_vl rfl (.pointer (some ⟨fb, 0, none⟩)) (exec_movM (.tmp 7) rfl _ rfl) ?_
                simp only [Act.put, List.setIfInBounds_toArray, List.set_cons_succ, List.set_cons_zero]
                refine wpList_vl rfl (.pointer (some ⟨cb, 0, none⟩)) (exec_fldM 31 0 (.tmp 6) rfl _ _ rfl (by kernel_rfl)) ?_
                simp only [Act.put, List.setIfInBounds_toArray, List.set_cons_succ, List.set_cons_zero]
                refine wpList_vl rfl (.int .i64 (j : Int)) (Bp.exec_load1 3 (.tmp 233) rfl ⟨cb, 0, none⟩ rfl _ q0 _ Try.underlying3 rfl) ?_
                simp only [Act.put, List.setIfInBounds_toArray, List.set_cons_succ, List.set_cons_zero]
                refine wpList_vl rfl (.pointer (some ⟨cb, 1, none⟩)) (exec_fldM 31 1 (.tmp 6) rfl _ _ rfl (by kernel_rfl)) ?_
                simp only [Act.put, List.setIfInBounds_toArray, List.set_cons_succ, List.set_cons_zero]
                refine wpList_vl rfl (.int .i64 (D : Int)) (Bp.exec_load1 3 (.tmp 235) rfl ⟨cb, 1, none⟩ rfl _ q1 _ Try.underlying3 rfl) ?_
                simp only [Act.put, List.setIfInBounds_toArray, List.set_cons_succ, List.set_cons_zero]
                refine wpList_callM rfl 46 #[.pointer (some ⟨fb, 0, none⟩), .int .i64 (j : Int), .int .i64 (D : Int)] (exec_call3M 46 (.tmp 232) (.tmp 234) (.tmp 236) _ _ _ _ rfl rfl rfl rfl (Tn.cf Try.func46 (by kernel_rfl) (by kernel_rfl) _ _)) (HMx.out _ HM62.out.fil) ?_
                rintro e w63 ⟨so, co, rfl, k1, k2, k3⟩
                refine ⟨_, rfl, ?_⟩
                simp only [Act.put, List.setIfInBounds_toArray, List.set_cons_succ, List.set_cons_zero]
                refine wpList_vl rfl (.pointer (some ⟨wb, 13, none⟩)) (exec_fldM 38 6 (.tmp 8) rfl _ _ rfl (by kernel_rfl)) ?_
                simp only [Act.put, List.setIfInBounds_toArray, List.set_cons_succ, List.set_cons_zero]
                have hM63 := HM62.out.next k1 k2
                obtain ⟨q13, z13⟩ := hM63.w 13
                obtain ⟨q14, z14⟩ := hM63.w 14
                obtain ⟨q15, z15⟩ := hM63.w 15
                replace q13 : w63.cell? ⟨wb, 13, none⟩ = some (.int .i64 0) := q13
                replace q14 : w63.cell? ⟨wb, 14, none⟩ = some (.int .i64 0) := q14
                replace q15 : w63.cell? ⟨wb, 15, none⟩ = some (.slice none 0 0) := q15
                have HM64 := Lib.hid (((hM63.put 13 (.int .i64 (j : Int))).put 14 (.int .i64 (D : Int))).put 15 (.slice so n0 co))
                have hr_ou : RowN w.heap.size w63 n0 (.slice so n0 co, fillN fl (a_ + D) n0) := owns_base k3 HM62.out.fil.below.size
                have HK64 : Hid (∀ (e k n : Nat) (v : Value) (xs : List Value), e = 3 ∨ e = 5 ∨ e = 83 → w63.ownsRow w.heap.size e k v n xs → (((w63.setCell ⟨wb, 13, none⟩ (.int .i64 (j : Int))).setCell ⟨wb, 14, none⟩ (.int .i64 (D : Int))).setCell ⟨wb, 15, none⟩ (.slice so n0 co)).ownsRow w.heap.size e k v n xs) := Lib.hid fun e k n v xs he ho => owns_set3 ho (fun e1 => (hM63.far ho (by rcases he with rfl | rfl | rfl <;> decide) (by rcases he with rfl | rfl | rfl <;> decide) (by rcases he with rfl | rfl | rfl <;> decide) _ e1).2.2.2 rfl) 13 14 15 _ _ _
                have HK63 : Hid (∀ (e k n : Nat) (v : Value) (xs : List Value), e = 3 ∨ e = 5 ∨ e = 83 → w62.ownsRow w.heap.size e k v n xs → w63.ownsRow w.heap.size e k v n xs) := Lib.hid fun e k n v xs he ho => ho.kept k2 (Or.inr fun e1 => (HM62.out.far ho (by rcases he with rfl | rfl | rfl <;> decide) (by rcases he with rfl | rfl | rfl <;> decide) (by rcases he with rfl | rfl | rfl <;> decide) _ e1).2.2.1 rfl)
                have HRo := Lib.hid hr_ou
                clear k1 k2 k3 hM63 hr_ou q0 q1
                go_upto_region 32 with fail
                refine genM (Q := fun w => Code.wp _ _ _ _ w) _ (fun W => Mk w cb fb wb j D H y X I sf cf fl (a_ + D + n0) #[.int .i64 (j : Int), .int .i64 (D : Int), .int .i64 (H : Int), .int .i64 (y : Int), .int .i64 (X : Int), .int .i64 (I : Int), .slice sv j cv, .slice none 0 0, .int .i64 (j : Int), .int .i64 (D : Int), .slice se n0 ce, lv, .slice sn D cn, .int .i64 (j : Int), .int .i64 (D : Int), .slice so n0 co] W ∧ W.ownsRow w.heap.size 5 1 (.slice sv j cv) j ((alp j).map (Value.int .u8)) ∧ RowN w.heap.size W n0 (.slice se n0 ce, fillN fl 0 n0) ∧ W.ownsRow w.heap.size 83 23 lv y (Ls.flatMap (LayV.cells D I)) ∧ (∀ x ∈ Ls, x.own w.heap.size W D I) ∧ RowN w.heap.size W D (.slice sn D cn, fillN fl a_ D) ∧ RowN w.heap.size W n0 (.slice so n0 co, fillN fl (a_ + D) n0)) ?_ ?_
                · have kp : ∀ (e k n : Nat) (v : Value) (xs : List Value), e = 3 ∨ e = 5 ∨ e = 83 → wr.ownsRow w.heap.size e k v n xs → _ := fun e k n v xs he ho => HK64.out e k n v xs he (HK63.out e k n v xs he (HK62.out e k n v xs he ho))
                  have kn : ∀ {n : Nat} {r : Value × List Int}, RowN w.heap.size wr n r → RowN w.heap.size _ n r := fun h => kp 3 1 _ _ _ (Or.inl rfl) h
                  exact ⟨HM64.out, kp _ _ _ _ _ (Or.inr (Or.inl rfl)) HA.out, kn HE.out, kp _ _ _ _ _ (Or.inr (Or.inr rfl)) HLv.out, fun x hx => have h := HLs.out x hx; ⟨kn h.n1, kn h.q, kn h.k, kn h.v, kn h.o, kn h.n2, kn h.g, kn h.u, kn h.d⟩, HK64.out _ _ _ _ _ (Or.inl rfl) (HK63.out _ _ _ _ _ (Or.inl rfl) HRn.out), HK64.out _ _ _ _ _ (Or.inl rfl) HRo.out⟩
                rintro w8 ⟨k1, k2, k3, k4, k5, k6, k7⟩
                obtain ⟨sl, cl, rfl⟩ := lay_val k4 g3.1
                have HM8 := Lib.hid k1
                have HOk := Lib.hid fun (W : World) (hg : w8.grownBy W (some rb)) => (by
                  have hr8 := k1.rrow
                  rw [HRb.out] at hr8
                  have kp : ∀ (e k n : Nat) (v : Value) (xs : List Value), e = 3 ∨ e = 5 ∨ e = 83 → w8.ownsRow w.heap.size e k v n xs → W.ownsRow w.heap.size e k v n xs := fun e k n v xs he ho => ho.kept hg (Or.inr fun e1 => by
                    obtain ⟨_, cur, hc⟩ := owns_row ho e1
                    rw [hr8] at hc
                    simp only [Option.some.injEq, Obj.cells.injEq] at hc
                    have := hc.2.1
                    rcases he with rfl | rfl | rfl <;> exact absurd this (by decide))
                  have kn : ∀ {n : Nat} {r : Value × List Int}, RowN w.heap.size w8 n r → RowN w.heap.size W n r := fun h => kp 3 1 _ _ _ (Or.inl rfl) h
                  exact model_of (H := H) (X := X) g0.2 g3.1 (kp _ _ _ _ _ (Or.inr (Or.inl rfl)) k2) (kn k3) (kp _ _ _ _ _ (Or.inr (Or.inr rfl)) k4) HLn.out (fun x hx => have h := k5 x hx; ⟨kn h.n1, kn h.q, kn h.k, kn h.v, kn h.o, kn h.n2, kn h.g, kn h.u, kn h.d⟩) (kn k6) (kn k7) :
                    WvOK W (vOf j D H y X I n0 sv se sl sn so cv ce cl cn co) (mOf j D H y X I (fillN fl 0 n0) (fillN fl a_ D) (fillN fl (a_ + D) n0) Ls))
                have hsm : Small (mOf j D H y X I (fillN fl 0 n0) (fillN fl a_ D) (fillN fl (a_ + D) n0) Ls) := mOf_small g0 g1 g2 g3 g4 g5
                obtain ⟨v, hv⟩ : ∃ v, vOf j D H y X I n0 sv se sl sn so cv ce cl cn co = v := ⟨_, rfl⟩
                obtain ⟨m, hm⟩ : ∃ m, mOf j D H y X I (fillN fl 0 n0) (fillN fl a_ D) (fillN fl (a_ + D) n0) Ls = m := ⟨_, rfl⟩
                have hcs : #[.int .i64 (j : Int), .int .i64 (D : Int), .int .i64 (H : Int), .int .i64 (y : Int), .int .i64 (X : Int), .int .i64 (I : Int), .slice sv j cv, .slice none 0 0, .int .i64 (j : Int), .int .i64 (D : Int), .slice se n0 ce, .slice sl y cl, .slice sn D cn, .int .i64 (j : Int), .int .i64 (D : Int), .slice so n0 co] = v.cells := by rw [← hv]; rfl
                rw [hv, hm] at HOk
                rw [hm] at hsm
                have hwb : w8.heap[wb]? = some (.cells v.cells 38 (0, 0)) := by rw [← hcs]; exact k1.wrow
                have hrb : ∃ cs : Array Value, cs.size = v.cells.size ∧ w8.heap[rb]? = some (.cells cs 38 (0, 0)) := by have h := k1.rrow; rw [HRb.out] at h; refine ⟨_, ?_, h⟩; rfl
                have hne : wb ≠ rb := fun e => k1.ner.2.2 (by rw [HRb.out, e])
                have hB8 : Below w.heap.size w w8 := k1.fil.below
                have HSm := Lib.hid hsm
                have HWb := Lib.hid hwb
                have HRr := Lib.hid hrb
                have HNe := Lib.hid hne
                have HB8 := Lib.hid hB8
                have HCk := Lib.hid fun (W : World) (hg : w8.grownBy W (some rb)) => check_any W v m (HOk.out W hg) (by have := hsm.al; omega) (by rw [hsm.ps]; exact Nat.zero_le _)
                have hrw : w.heap.size ≤ rb := by have := HRb.out; omega
                have HRw := Lib.hid hrw
                clear k1 k2 k3 k4 k5 k6 k7 HM8 HM64 HK64 HK63 HK62 HRn HRo HA HE HLv HLs HLn hsm hwb hrb hne hB8 hcs hv hm hrw
                obtain ⟨zB, hzB⟩ : ∃ z, decide (m.chk = 0) = z := ⟨_, rfl⟩
                have HZz := Lib.hid hzB
                obtain ⟨E, hE⟩ : ∃ E, m.chk = E := ⟨_, rfl⟩
                rw [hE] at HCk hzB
                have HZ := Lib.hid hzB
                clear hzB hE
                refine Tn.wp_region_spec_at (C := fun W => w8.grownBy W (some rb) ∧ ∃ cs : Array Value, cs.size = v.cells.size ∧ W.heap[rb]? = some (.cells cs 38 (0, 0))) (Le := fun k A B => k ≠ 4 → Below A.heap.size A B) (Pre := fun _ _ => True) 5 (fun _ j W x => (∀ z, (fun j => if j = 0 then some (.agg v.cells) else if j = 1 then some (.agg v.cells) else if j = 2 then some (.int .i64 E) else if j = 3 then some (.bool zB) else none : Nat → Option Value) j = some z → x = z) ∧ (j = 4 → W.heap[rb]? = some (.cells v.cells 38 (0, 0)))) (by kernel_rfl) (by kernel_rfl) ⟨⟨rfl, rfl, rfl, Nat.le_refl _, fun _ _ _ => rfl⟩, HRr.out⟩
                  (fun _ _ _ _ _ _ h => h) (fun _ j k A B x hne hle h => ⟨h.1, fun e => ((hle (by omega)).block _ (Array.getElem?_eq_some_iff.1 (h.2 e)).1).trans (h.2 e)⟩) (fun _ _ _ _ _ _ _ => trivial) (fun _ => trivial)
                  (fun j x => ∀ z, (fun j => if j = 0 then some (.agg v.cells) else if j = 1 then some (.agg v.cells) else if j = 2 then some (.int .i64 E) else if j = 3 then some (.bool zB) else none : Nat → Option Value) j = some z → x = z) (fun _ _ _ _ h => h.1)
                  (fun j => ((fun j => if j = 0 then some (.agg v.cells) else if j = 1 then some (.agg v.cells) else if j = 2 then some (.int .i64 E) else if j = 3 then some (.bool zB) else none : Nat → Option Value) j).getD undef) (fun j z h => by simp only at h ⊢; rw [h]; rfl) ?_ ?_
                · intro u hu
                  have e0 : u 0 = .agg v.cells := hu 0 _ rfl
                  have e1 : u 1 = .agg v.cells := hu 1 _ rfl
                  have e2 : u 2 = .int .i64 E := hu 2 _ rfl
                  have e3 : u 3 = .bool zB := hu 3 _ rfl
                  simp only [List.take_succ_cons, List.take_zero]
                  refine Tn.spec_cons (fun Y hC hd => ⟨by rfl, Tn.gives_val (.agg v.cells) Y (exec_rowM 38 (.tmp 8) rfl wb rfl 38 v.cells (0, 0) _ ((hC.1.block wb (Array.getElem?_eq_some_iff.1 HWb.out).1 (fun e => HNe.out (by injection e))).trans HWb.out) Try.underlying38 rfl (size_wv v)) ⟨hC, fun _ => Below.refl _ _, (fun z hz => by cases hz; rfl), (fun e => by omega)⟩⟩) ?_
                  simp only [Act.put, List.setIfInBounds_toArray, List.set_cons_succ, List.set_cons_zero, Nat.reduceAdd]
                  rw [e0]
                  refine Tn.spec_cons (fun Y hC hd => ⟨by rfl, Tn.gives_val (.agg v.cells) Y (exec_rowM 38 (.tmp 8) rfl wb rfl 38 v.cells (0, 0) _ ((hC.1.block wb (Array.getElem?_eq_some_iff.1 HWb.out).1 (fun e => HNe.out (by injection e))).trans HWb.out) Try.underlying38 rfl (size_wv v)) ⟨hC, fun _ => Below.refl _ _, (fun z hz => by cases hz; rfl), (fun e => by omega)⟩⟩) ?_
                  simp only [Act.put, List.setIfInBounds_toArray, List.set_cons_succ, List.set_cons_zero, Nat.reduceAdd]
                  rw [e1]
                  refine Tn.spec_cons (fun Y hC hd => ⟨by rfl, Tn.gives_call _ _ (Tn.exec_call1 48 (.tmp 240) #[38] _ rfl rfl (Tn.cf Try.func48 (by kernel_rfl) (by kernel_rfl) _ _)) ((HCk.out Y hC.1).mono fun e2 Y' ⟨e3, hb3⟩ => ⟨_, e3, ⟨grownM_trans hC.1 (grownM_of hb3 _), by obtain ⟨cs, h1, h2⟩ := hC.2; exact ⟨cs, h1, (hb3.block _ (Array.getElem?_eq_some_iff.1 h2).1).trans h2⟩⟩, fun _ => hb3, (fun z hz => by cases hz; rfl), (fun e => by omega)⟩)⟩) ?_
                  simp only [Act.put, List.setIfInBounds_toArray, List.set_cons_succ, List.set_cons_zero, Nat.reduceAdd]
                  rw [e2]
                  refine Tn.spec_cons (fun Y hC hd => ⟨by rfl, Tn.gives_val (.bool zB) Y (exec_eqE (.tmp 241) (.const (.int .i64 0)) rfl E 0 zB rfl rfl HZ.out) ⟨hC, fun _ => Below.refl _ _, (fun z hz => by cases hz; rfl), (fun e => by omega)⟩⟩) ?_
                  simp only [Act.put, List.setIfInBounds_toArray, List.set_cons_succ, List.set_cons_zero, Nat.reduceAdd]
                  rw [e3]
                  refine Tn.spec_cons (fun Y hC hd => ⟨by rfl, ?_⟩) ?_
                  · obtain ⟨cs, hcs, hrow⟩ := hC.2
                    exact gives_rowM 38 (.tmp 2) (.tmp 239) rfl rb v.cells rfl rfl 38 cs hrow (size_wv v) hcs (wv_one v) ⟨⟨grown_row hC.1 _, v.cells, rfl, setRow_heap _ _ _ _ _ _ hrow⟩, fun h => absurd rfl h, (fun z hz => by cases hz), fun _ => setRow_heap _ _ _ _ _ _ hrow⟩
                  simp only [Act.put, Nat.reduceAdd]
                  exact Tn.spec_nil
                intro u Y hu hC hP
                have e0 : u 0 = .agg v.cells := hu 0 _ rfl
                have e1 : u 1 = .agg v.cells := hu 1 _ rfl
                have e2 : u 2 = .int .i64 E := hu 2 _ rfl
                have e3 : u 3 = .bool zB := hu 3 _ rfl
                have hrow := (hP 4 (by omega)).2 rfl
                simp only [List.take_succ_cons, List.take_zero, List.drop_succ_cons, List.drop_zero, Tn.putAll, Act.put, List.setIfInBounds_toArray, List.set_cons_succ, List.set_cons_zero, Nat.reduceAdd]
                rw [e0, e1, e2, e3]
                have HRow := Lib.hid hrow
                have HC := Lib.hid hC.1
                clear hu hC hP e0 e1 e2 e3 hrow
                go_wp2
                exact bodyPost_ret (v := .tuple #[.agg v.cells, .bool zB]) (results_rtM Try.results25 _ _ rb 38 _ (0, 0) _ _ rfl HRow.out Try.underlying38 rfl (size_wv v) rfl) rfl ⟨HB8.out.trans (Below.ofGrown HC.out HB8.out.size (fun k hk => by cases hk; exact HRw.out)), Or.inr ⟨v, m, by rw [HZz.out], HOk.out _ HC.out, HSm.out⟩⟩
end Go.Proofs.Ytdffbjjiojheoaa.Mk
