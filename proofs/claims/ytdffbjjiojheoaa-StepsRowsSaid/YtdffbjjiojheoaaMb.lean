import Derived.Test.YtdffbjjiojheoaaMa
namespace Go.Proofs.Ytdffbjjiojheoaa.Wg
set_option maxRecDepth 100000
open Go.ChangeShapes Go.WideShapes Go.ChangeAt Go.RowKit Go.Shelf Go.Proofs.Ytdffbjjiojheoaa.Tn

/-! ### the closures of a part, and where it stands -/
theorem leadsK {k : Nat} (h2 : 2 ≤ k) (h3 : k ≤ 10) : (∀ b o, Leads (fnK k) ⟨b, o, none⟩ ⟨b, o + offK k, none⟩) ∧ ∀ args W, (callFunc (fnK k) args).run Try.prog W = .ok (.enter (fnK k) args) W := by
  obtain rfl | rfl | rfl | rfl | rfl | rfl | rfl | rfl | rfl : k = 2 ∨ k = 3 ∨ k = 4 ∨ k = 5 ∨ k = 6 ∨ k = 7 ∨ k = 8 ∨ k = 9 ∨ k = 10 := by omega
  · exact ⟨leads2, fun args W => cf Try.func88 (by kernel_rfl) (by kernel_rfl) _ _⟩
  · exact ⟨leads3, fun args W => cf Try.func89 (by kernel_rfl) (by kernel_rfl) _ _⟩
  · exact ⟨leads4, fun args W => cf Try.func90 (by kernel_rfl) (by kernel_rfl) _ _⟩
  · exact ⟨leads5, fun args W => cf Try.func91 (by kernel_rfl) (by kernel_rfl) _ _⟩
  · exact ⟨leads6, fun args W => cf Try.func92 (by kernel_rfl) (by kernel_rfl) _ _⟩
  · exact ⟨leads7, fun args W => cf Try.func93 (by kernel_rfl) (by kernel_rfl) _ _⟩
  · exact ⟨leads8, fun args W => cf Try.func94 (by kernel_rfl) (by kernel_rfl) _ _⟩
  · exact ⟨leads9, fun args W => cf Try.func95 (by kernel_rfl) (by kernel_rfl) _ _⟩
  · exact ⟨leads10, fun args W => cf Try.func96 (by kernel_rfl) (by kernel_rfl) _ _⟩
/-- a closure that tells where a part stands: from a pointer to the model -/
def ClosOK (w : World) (g : Nat) (fv : Value) (A : Addr) : Prop := ∃ f cap, fv = .func (.func f) #[] cap ∧ (∀ args W, (callFunc f args).run Try.prog W = .ok (.enter f args) W) ∧ ∀ W, Below w.heap.size w W → Calls Try.prog f (#[.pointer (some ⟨g, 0, none⟩)] ++ cap) W fun e W' => e = .returned (.pointer (some A)) ∧ ∃ q, W' = W.drewN q
theorem ClosOK.later {w w' : World} {g : Nat} {fv : Value} {A : Addr} (h : ClosOK w g fv A) (hb : Below w.heap.size w w') : ClosOK w' g fv A := by
  obtain ⟨f, cap, h1, h2, h3⟩ := h
  exact ⟨f, cap, h1, h2, fun W hW => h3 W (hb.trans (hW.mono hb.size))⟩
theorem Leads.clos {w : World} {g f : Nat} {A : Addr} (h : Leads f ⟨g, 0, none⟩ A) (hc : ∀ args W, (callFunc f args).run Try.prog W = .ok (.enter f args) W) : ClosOK w g (.func (.func f) #[] #[]) A :=
  ⟨f, #[], rfl, hc, fun W _ => (h W).mono fun _ _ he => ⟨he.1, 0, he.2⟩⟩
/-- of a part that is told: its closure; the other one is none -/
theorem clos_of {n0 : Nat} {w : World} {g : Nat} {v : Wv} {m : Md} {x : Bk} (hm : Model w g v m) (hn : v.nl ≤ 4) (hx : FnOK n0 w x) (hy : 2 ≤ x.b.k → x.b.k ≤ 10 → x.b.y < v.nl) :
    (isVec x.b.k = true → ClosOK w g x.vf ⟨(addrP v g x.b).1, (addrP v g x.b).2, none⟩ ∧ x.mf = .nilFunc) ∧ (isVec x.b.k = false → ClosOK w g x.mf ⟨(addrP v g x.b).1, (addrP v g x.b).2, none⟩ ∧ x.vf = .nilFunc) := by
  unfold addrP
  rcases hx with ⟨hk, h1, h2⟩ | ⟨hk, h1, h2⟩ | ⟨hk, h1, h2⟩ | ⟨⟨h2, h3⟩, bi, bl, hb1, hb2, hr1, hr2, h4, h5⟩
  · rw [if_pos hk, hk]
    refine ⟨(fun h => by cases h), fun _ => ⟨?_, h1⟩⟩
    rw [h2]
    exact (leadsEmb g 0).clos (fun args W => cf Try.func73 (by kernel_rfl) (by kernel_rfl) _ _)
  · rw [if_neg (by omega), if_pos hk, hk]
    refine ⟨fun _ => ⟨?_, h2⟩, (fun h => by cases h)⟩
    rw [h1]
    exact (leadsNrm g 0).clos (fun args W => cf Try.func75 (by kernel_rfl) (by kernel_rfl) _ _)
  · rw [if_neg (by omega), if_neg (by omega), if_pos hk, hk]
    refine ⟨(fun h => by cases h), fun _ => ⟨?_, h1⟩⟩
    rw [h2]
    exact (leadsOut g 0).clos (fun args W => cf Try.func76 (by kernel_rfl) (by kernel_rfl) _ _)
  · rw [if_neg (by omega), if_neg (by omega), if_neg (by omega)]
    have hyl := hy h2 h3
    obtain ⟨b, o, e, _⟩ := hm.ok.ls (by omega)
    obtain ⟨hl, hc⟩ := leadsK h2 h3
    have hcw : w.cell? ⟨g, 0 + 11, none⟩ = some (.slice (some ⟨b, o, none⟩) v.nl v.cl) := by
      have := hm.cell 11
      rw [Nat.zero_add, this, ← e]
      rfl
    have k1 : w.cell? ⟨bi, 0, none⟩ = some (fnV (fnK x.b.k)) := by rw [cell_of_row _ _ _ _ _ _ hr1]; rfl
    have k2 : w.cell? ⟨bl, 0, none⟩ = some (.int .i64 (x.b.y : Int)) := by rw [cell_of_row _ _ _ _ _ _ hr2]; rfl
    rw [e]
    refine ⟨fun hv => ?_, fun hv => ?_⟩
    · obtain ⟨e1, e2⟩ := h4 hv
      refine ⟨⟨_, _, e1, fun args W => cf Try.func85 (by kernel_rfl) (by kernel_rfl) _ _, fun W hW => ?_⟩, e2⟩
      exact vecIn_any W g 0 bi bl (fnK x.b.k) b o v.nl v.cl x.b.y _ ((hW.cell (block_lt_of_cell k1)).trans k1) ((hW.cell (block_lt_of_cell k2)).trans k2) ((hW.cell (block_lt_of_cell hcw)).trans hcw) hyl hn (hl b (o + x.b.y * 23)) hc
    · obtain ⟨e1, e2⟩ := h5 hv
      refine ⟨⟨_, _, e2, fun args W => cf Try.func87 (by kernel_rfl) (by kernel_rfl) _ _, fun W hW => ?_⟩, e1⟩
      exact matIn_any W g 0 bi bl (fnK x.b.k) b o v.nl v.cl x.b.y _ ((hW.cell (block_lt_of_cell k1)).trans k1) ((hW.cell (block_lt_of_cell k2)).trans k2) ((hW.cell (block_lt_of_cell hcw)).trans hcw) hyl hn (hl b (o + x.b.y * 23)) hc
/-! ### numbers -/
theorem drawn_below {W : World} (q : Nat) : Below W.heap.size W (W.drewN q) := ⟨rfl, rfl, rfl, Nat.le_refl _, fun _ _ => rfl⟩
theorem neM_no (W : World) : (binOp .neq 115 .nilFunc .nilFunc).run Try.prog W = .ok (.bool false) W := by kernel_rfl
theorem neM_yes (f : FuncId) (cap : Array Value) (W : World) : (binOp .neq 115 (.func (.func f) #[] cap) .nilFunc).run Try.prog W = .ok (.bool true) W := by kernel_rfl

set_option maxHeartbeats 4000000 in
theorem numbersV_any (w : World) (g : Nat) (k y r c : Nat) (vf : Value) (b o : Nat) (hc : ClosOK w g vf ⟨b, o, none⟩) :
    Calls Try.prog 82 #[.agg #[.int .i64 (k : Int), .int .i64 (y : Int), .int .i64 (r : Int), .int .i64 (c : Int), vf, .nilFunc], .pointer (some ⟨g, 0, none⟩)] w fun e w' => e = .returned (.pointer (some ⟨b, o, none⟩)) ∧ Below w.heap.size w w' := by
  obtain ⟨f, cap, rfl, hcf, hcl⟩ := hc
  have HCl := Lib.hid hcl
  have hba : Below w.heap.size w (w.alloc (.cells #[.int .i64 (k : Int), .int .i64 (y : Int), .int .i64 (r : Int), .int .i64 (c : Int), .func (.func f) #[] cap, .nilFunc] 117)) := (Below.refl _ _).alloc (Nat.le_refl _) _
  have HB := Lib.hid hba
  have h0 := neM_no
  have h1 := neM_yes
  clear hcl hba
  go_enter Try.func82, Try.ntmps82
  go_wp2_with fail
  refine (HCl.out _ HB.out).mono ?_
  rintro e w2 ⟨rfl, q, rfl⟩
  have HB2 := Lib.hid (HB.out.trans ((drawn_below q).mono HB.out.size))
  clear HB
  go_wp2
  go_ret
  exact ⟨rfl, HB2.out⟩
set_option maxHeartbeats 4000000 in
theorem numbersM_any (w : World) (g : Nat) (k y r c : Nat) (mf : Value) (b o : Nat) (hc : ClosOK w g mf ⟨b, o, none⟩) :
    Calls Try.prog 82 #[.agg #[.int .i64 (k : Int), .int .i64 (y : Int), .int .i64 (r : Int), .int .i64 (c : Int), .nilFunc, mf], .pointer (some ⟨g, 0, none⟩)] w fun e w' => e = .returned (.pointer (some ⟨b, o + 2, none⟩)) ∧ Below w.heap.size w w' := by
  obtain ⟨f, cap, rfl, hcf, hcl⟩ := hc
  have HCl := Lib.hid hcl
  have hba : Below w.heap.size w (w.alloc (.cells #[.int .i64 (k : Int), .int .i64 (y : Int), .int .i64 (r : Int), .int .i64 (c : Int), .nilFunc, .func (.func f) #[] cap] 117)) := (Below.refl _ _).alloc (Nat.le_refl _) _
  have HB := Lib.hid hba
  have h0 := neM_no
  have h1 := neM_yes
  clear hcl hba
  go_enter Try.func82, Try.ntmps82
  go_wp2_with fail
  refine (HCl.out _ HB.out).mono ?_
  rintro e w2 ⟨rfl, q, rfl⟩
  have HB2 := Lib.hid (HB.out.trans ((drawn_below q).mono HB.out.size))
  clear HB
  go_wp2
  go_ret
  exact ⟨rfl, HB2.out⟩
end Go.Proofs.Ytdffbjjiojheoaa.Wg
