import Derived.Test.YtdffbjjiojheoaaWc
namespace Go.Proofs.Ytdffbjjiojheoaa.Wg
set_option maxRecDepth 100000
open Go.ChangeShapes Go.WideShapes Go.ChangeAt Go.RowKit Go.Proofs.Ytdffbjjiojheoaa.Tn

/-! ### where a part stands -/
/-- where a part of a layer stands in it -/
def offK : Nat → Nat
  | 2 => 0 | 3 => 1 | 4 => 4 | 5 => 7 | 6 => 10 | 7 => 13 | 8 => 14 | 9 => 17 | 10 => 20 | _ => 0
/-- a closure that tells a place: from a pointer to a pointer -/
def Leads (f : Nat) (a b : Addr) : Prop := ∀ W, Calls Try.prog f #[.pointer (some a)] W fun e W' => e = .returned (.pointer (some b)) ∧ W' = W
theorem leads2 (b o : Nat) : Leads 88 ⟨b, o, none⟩ ⟨b, o + 0, none⟩ := fun W => by
  go_enter Try.func88, Try.ntmps88
  go_wp2
  go_ret
  exact ⟨rfl, rfl⟩
theorem leads3 (b o : Nat) : Leads 89 ⟨b, o, none⟩ ⟨b, o + 1, none⟩ := fun W => by
  go_enter Try.func89, Try.ntmps89
  go_wp2
  go_ret
  exact ⟨rfl, rfl⟩
theorem leads4 (b o : Nat) : Leads 90 ⟨b, o, none⟩ ⟨b, o + 4, none⟩ := fun W => by
  go_enter Try.func90, Try.ntmps90
  go_wp2
  go_ret
  exact ⟨rfl, rfl⟩
theorem leads5 (b o : Nat) : Leads 91 ⟨b, o, none⟩ ⟨b, o + 7, none⟩ := fun W => by
  go_enter Try.func91, Try.ntmps91
  go_wp2
  go_ret
  exact ⟨rfl, rfl⟩
theorem leads6 (b o : Nat) : Leads 92 ⟨b, o, none⟩ ⟨b, o + 10, none⟩ := fun W => by
  go_enter Try.func92, Try.ntmps92
  go_wp2
  go_ret
  exact ⟨rfl, rfl⟩
theorem leads7 (b o : Nat) : Leads 93 ⟨b, o, none⟩ ⟨b, o + 13, none⟩ := fun W => by
  go_enter Try.func93, Try.ntmps93
  go_wp2
  go_ret
  exact ⟨rfl, rfl⟩
theorem leads8 (b o : Nat) : Leads 94 ⟨b, o, none⟩ ⟨b, o + 14, none⟩ := fun W => by
  go_enter Try.func94, Try.ntmps94
  go_wp2
  go_ret
  exact ⟨rfl, rfl⟩
theorem leads9 (b o : Nat) : Leads 95 ⟨b, o, none⟩ ⟨b, o + 17, none⟩ := fun W => by
  go_enter Try.func95, Try.ntmps95
  go_wp2
  go_ret
  exact ⟨rfl, rfl⟩
theorem leads10 (b o : Nat) : Leads 96 ⟨b, o, none⟩ ⟨b, o + 20, none⟩ := fun W => by
  go_enter Try.func96, Try.ntmps96
  go_wp2
  go_ret
  exact ⟨rfl, rfl⟩
theorem leadsEmb (b o : Nat) : Leads 73 ⟨b, o, none⟩ ⟨b, o + 8, none⟩ := fun W => by
  go_enter Try.func73, Try.ntmps73
  go_wp2
  go_ret
  exact ⟨rfl, rfl⟩
theorem leadsNrm (b o : Nat) : Leads 75 ⟨b, o, none⟩ ⟨b, o + 12, none⟩ := fun W => by
  go_enter Try.func75, Try.ntmps75
  go_wp2
  go_ret
  exact ⟨rfl, rfl⟩
theorem leadsOut (b o : Nat) : Leads 76 ⟨b, o, none⟩ ⟨b, o + 13, none⟩ := fun W => by
  go_enter Try.func76, Try.ntmps76
  go_wp2
  go_ret
  exact ⟨rfl, rfl⟩
set_option maxHeartbeats 4000000 in
theorem vecIn_any (w : World) (g o bi bl f lb lo n cap y : Nat) (A : Addr) (cb : w.cell? ⟨bi, 0, none⟩ = some (fnV f)) (cl : w.cell? ⟨bl, 0, none⟩ = some (.int .i64 (y : Int))) (cw : w.cell? ⟨g, o + 11, none⟩ = some (.slice (some ⟨lb, lo, none⟩) n cap)) (hy : y < n) (_hn : n ≤ 4) (hf : Leads f ⟨lb, lo + y * 23, none⟩ A)
    (hcf : ∀ args W, (callFunc f args).run Try.prog W = .ok (.enter f args) W) :
    Calls Try.prog 85 #[.pointer (some ⟨g, o, none⟩), .pointer (some ⟨bi, 0, none⟩), .pointer (some ⟨bl, 0, none⟩)] w fun e w' => e = .returned (.pointer (some A)) ∧ ∃ q, w' = w.drewN q := by
  unfold fnV at cb
  have d1 : decide (y < n) = true := by simpa using hy
  go_enter Try.func85, Try.ntmps85
  go_wp2
  go_quiet (exact (hf _).mono fun e w2 h => ⟨h.1, _, h.2⟩)
  go_wp2
  go_ret
  exact ⟨rfl, _, rfl⟩
set_option maxHeartbeats 4000000 in
theorem matIn_any (w : World) (g o bi bl f lb lo n cap y : Nat) (A : Addr) (cb : w.cell? ⟨bi, 0, none⟩ = some (fnV f)) (cl : w.cell? ⟨bl, 0, none⟩ = some (.int .i64 (y : Int))) (cw : w.cell? ⟨g, o + 11, none⟩ = some (.slice (some ⟨lb, lo, none⟩) n cap)) (hy : y < n) (_hn : n ≤ 4) (hf : Leads f ⟨lb, lo + y * 23, none⟩ A)
    (hcf : ∀ args W, (callFunc f args).run Try.prog W = .ok (.enter f args) W) :
    Calls Try.prog 87 #[.pointer (some ⟨g, o, none⟩), .pointer (some ⟨bi, 0, none⟩), .pointer (some ⟨bl, 0, none⟩)] w fun e w' => e = .returned (.pointer (some A)) ∧ ∃ q, w' = w.drewN q := by
  unfold fnV at cb
  have d1 : decide (y < n) = true := by simpa using hy
  go_enter Try.func87, Try.ntmps87
  go_wp2
  go_quiet (exact (hf _).mono fun e w2 h => ⟨h.1, _, h.2⟩)
  go_wp2
  go_ret
  exact ⟨rfl, _, rfl⟩
end Go.Proofs.Ytdffbjjiojheoaa.Wg
