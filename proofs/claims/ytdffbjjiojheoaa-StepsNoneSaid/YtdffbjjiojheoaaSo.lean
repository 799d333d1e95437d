/- Steps: a plan that may not be has nothing. -/
import Derived.Test.YtdffbjjiojheoaaSn
namespace Go.Proofs.Ytdffbjjiojheoaa.St
set_option maxRecDepth 100000
open Go.ChangeShapes Go.WideShapes Go.ChangeAt Go.RowKit Go.Shelf Go.Proofs.Ytdffbjjiojheoaa.Tn Go.Proofs.Ytdffbjjiojheoaa.Wg
attribute [local go_sem] Oper.semAt_some
theorem Size_no (w : World) (q : Pl) (hq : q.chk ≠ 0) (c : Int) : Calls Try.prog 22 #[.agg q.cells, .int .i64 c] w fun e w' => e = .returned (.int .i64 0) ∧ Below w.heap.size w w' := by
  have HC := Lib.hid (fun W => Cells_no W q hq)
  have HP := Lib.hid (fun W => isPlace_any W c 0)
  have HM := Lib.hid (PlI.made w q)
  have e : decide (0 ≤ c ∧ c < 0) = false := by simp
  rw [e] at HP
  clear hq e
  go_enter Try.func22, Try.ntmps22
  go_upto_region 1 with fail
  refine Mk.genM (Q := fun w => Code.wp _ _ _ _ w) _ (PlI w q) HM.out ?_
  clear HM
  intro w5 hx
  have HI := Lib.hid hx
  clear hx
  go_wp2_with (first
    | (refine Mk.wpList_vl rfl _ (exec_pl (.tmp 2) rfl w.heap.size rfl q HI.out.row) ?_)
    | (go_at_call 15; refine (HC.out _).mono ?_; rintro e w6 ⟨rfl, hb6⟩; have HI6 := Lib.hid (HI.out.later hb6); clear hb6)
    | (go_at_call 44; refine (HP.out _).mono ?_; rintro e w7 ⟨rfl, rfl⟩))
  go_ret
  exact ⟨rfl, HI6.out.below⟩
theorem results_two {P : Program} {fn : Func} {p q : Tmp} (h : fn.results = #[.tmp p, .tmp q]) (tmps : Array Value) (w : World) (u v : Value) (hp : tmps.getD p undef = u) (hq : tmps.getD q undef = v) : (results fn tmps).run P w = .ok (.tuple #[u, v]) w := by
  have hp' : tmps[p]?.getD undef = u := by simpa using hp
  have hq' : tmps[q]?.getD undef = v := by simpa using hq
  simp [results, h, hp', hq']
theorem Begin_no (w : World) (q : Pl) (hq : q.chk ≠ 0) (s : Option Addr) (n c : Nat) : Calls Try.prog 26 #[.agg q.cells, .slice s n c] w fun e w' => e = .returned (.tuple #[.slice none 0 0, .int .i64 q.chk]) ∧ Below w.heap.size w w' := by
  have HK := Lib.hid (fun W => pchk_any W q)
  have HM := Lib.hid (PlI.made w q)
  obtain ⟨E, hE⟩ : ∃ z, q.chk = z := ⟨_, rfl⟩
  rw [hE] at HK hq ⊢
  have n1 : (E == 0) = false := by simpa using hq
  have n2 : (E != 0) = true := by simpa using hq
  clear hE hq
  go_enter Try.func26, Try.ntmps26
  go_upto_region 1 with fail
  refine Mk.genM (Q := fun w => Code.wp _ _ _ _ w) _ (PlI w q) HM.out ?_
  clear HM
  intro w5 hx
  have HI := Lib.hid hx
  clear hx
  go_wp2_with (first
    | (refine Mk.wpList_vl rfl _ (exec_pl (.tmp 2) rfl w.heap.size rfl q HI.out.row) ?_)
    | (go_at_call 11; refine (HK.out _).mono ?_; rintro e w6 ⟨rfl, hb6⟩; have HI6 := Lib.hid (HI.out.later hb6); clear hb6))
  exact bodyPost_ret (results_two rfl _ _ _ _ rfl rfl) rfl ⟨rfl, HI6.out.below⟩
/-- what is wrong with the three numbers of a plan -/
def wantN (v x a b k : Int) : Int := if a < 1 ∨ b < 1 then 13 else if x < a ∨ x < b ∨ x < a + b then 20 else if k < 1 ∨ v < k then 10 else 0
theorem chk_want {c : Cfg} (hc : c.chk = 0) (a b k : Int) : (⟨c, a, b, k⟩ : Pl).chk = wantN c.v c.x a b k := by
  obtain ⟨h1, _, _, _, h5, _⟩ := Cfg.ok_of_chk hc
  have hn : ((⟨c, a, b, k⟩ : Pl).n : Int) = min (max a 0) c.x := by unfold Pl.n; dsimp only; omega
  unfold Pl.chk
  dsimp only
  rw [if_neg (by omega)]
  unfold mchk wantN
  rw [if_neg (by omega), List.length_replicate]
  obtain ⟨n, hn2⟩ : ∃ n, (⟨c, a, b, k⟩ : Pl).n = n := ⟨_, rfl⟩
  rw [hn2] at hn ⊢
  by_cases a1 : a < 1 ∨ b < 1
  · rw [if_pos a1, if_pos (by omega)]
  rw [if_neg a1, if_neg (by omega)]
  by_cases a2 : c.x < a ∨ c.x < b ∨ c.x < a + b
  · rw [if_pos a2, if_pos (by omega)]
  rw [if_neg a2, if_neg (by omega)]
  by_cases a3 : k < 1 ∨ c.v < k
  · rw [if_pos a3, if_pos (Or.inr a3)]
  rw [if_neg a3, if_neg]
  rintro (⟨t, h, h2⟩ | h)
  · rw [List.eq_of_mem_replicate h] at h2; omega
  · exact a3 h
end Go.Proofs.Ytdffbjjiojheoaa.St
