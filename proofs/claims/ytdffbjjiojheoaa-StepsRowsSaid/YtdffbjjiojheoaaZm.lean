/- Small models that a law makes: what the pieces come to. -/
import Derived.Test.YtdffbjjiojheoaaZc
namespace Go.Proofs.Ytdffbjjiojheoaa.Mk
set_option maxRecDepth 100000
open Go.ChangeShapes Go.WideShapes Go.ChangeAt Go.RowKit Go.Shelf Go.Proofs.Ytdffbjjiojheoaa.Tn Go.Proofs.Ytdffbjjiojheoaa.Wg
/-- a layer's part -/
def LayV.part (D I : Nat) (x : LayV) : Nat → Mt
  | 2 => ⟨0, 0, x.n1.2⟩
  | 3 => ⟨D, D, x.q.2⟩
  | 4 => ⟨D, D, x.k.2⟩
  | 5 => ⟨D, D, x.v.2⟩
  | 6 => ⟨D, D, x.o.2⟩
  | 7 => ⟨0, 0, x.n2.2⟩
  | 8 => ⟨I, D, x.g.2⟩
  | 9 => ⟨I, D, x.u.2⟩
  | 10 => ⟨D, I, x.d.2⟩
  | _ => ⟨0, 0, []⟩
theorem cellsL_length (D I : Nat) (x : LayV) : (LayV.cells D I x).length = 23 := rfl
theorem flat_at {D I : Nat} : ∀ (Ls : List LayV) (y i : Nat) (x : LayV), Ls[y]? = some x → i < 23 → (Ls.flatMap (LayV.cells D I))[y * 23 + i]? = (LayV.cells D I x)[i]?
  | [], y, i, x, h, _ => by simp at h
  | a :: Ls, 0, i, x, h, hi => by
    have e : a = x := by simpa using h
    subst e
    rw [List.flatMap_cons, Nat.zero_mul, Nat.zero_add, List.getElem?_append_left (by rw [cellsL_length]; exact hi)]
  | a :: Ls, y + 1, i, x, h, hi => by
    have h' : Ls[y]? = some x := by simpa using h
    rw [List.flatMap_cons, List.getElem?_append_right (by rw [cellsL_length]; omega), cellsL_length, show (y + 1) * 23 + i - 23 = y * 23 + i by omega]
    exact flat_at Ls y i x h' hi
theorem rowN_nums {B n : Nat} {W : World} {s : Option Addr} {c : Nat} {l : List Int} (h : RowN B W n (.slice s n c, l)) : l.length = n ∧ Nums W s c l := by
  obtain ⟨sp, cap, e, h1, h2⟩ := own_nums h
  cases e
  exact ⟨h1, h2⟩
theorem vec_at {B n b o k : Nat} {W : World} {r : Value × List Int} (h : RowN B W n r) (hc : W.cell? ⟨b, o, none⟩ = some r.1) (hk : isVec k = true) : PartAt W b o k ⟨0, 0, r.2⟩ := by
  obtain ⟨sp, cap, e, h1, h2⟩ := own_nums h
  unfold PartAt
  rw [if_pos hk]
  exact ⟨sp, cap, by rw [hc, e, h1], h2⟩
theorem mat_at {B n b o k R C : Nat} {W : World} {r : Value × List Int} (h : RowN B W n r) (h0 : W.cell? ⟨b, o, none⟩ = some (.int .i64 (R : Int))) (h1 : W.cell? ⟨b, o + 1, none⟩ = some (.int .i64 (C : Int))) (hc : W.cell? ⟨b, o + 2, none⟩ = some r.1) (hk : isVec k = false) : PartAt W b o k ⟨R, C, r.2⟩ := by
  obtain ⟨sp, cap, e, h3, h2⟩ := own_nums h
  unfold PartAt
  rw [if_neg (by rw [hk]; decide)]
  exact ⟨h0, h1, sp, cap, by rw [hc, e, h3], h2⟩
theorem part_at {W : World} {B D I b o : Nat} {x : LayV} (hx : x.own B W D I) (hc : ∀ i, i < 23 → W.cell? ⟨b, o + i, none⟩ = (LayV.cells D I x)[i]?) (k : Nat) (h2 : 2 ≤ k) (h10 : k ≤ 10) : PartAt W b (o + offK k) k (x.part D I k) := by
  have c := fun i (hi : i < 23) => hc i hi
  obtain rfl | rfl | rfl | rfl | rfl | rfl | rfl | rfl | rfl : k = 2 ∨ k = 3 ∨ k = 4 ∨ k = 5 ∨ k = 6 ∨ k = 7 ∨ k = 8 ∨ k = 9 ∨ k = 10 := by omega
  · exact vec_at hx.n1 (c 0 (by decide)) rfl
  · exact mat_at hx.q (c 1 (by decide)) (c 2 (by decide)) (c 3 (by decide)) rfl
  · exact mat_at hx.k (c 4 (by decide)) (c 5 (by decide)) (c 6 (by decide)) rfl
  · exact mat_at hx.v (c 7 (by decide)) (c 8 (by decide)) (c 9 (by decide)) rfl
  · exact mat_at hx.o (c 10 (by decide)) (c 11 (by decide)) (c 12 (by decide)) rfl
  · exact vec_at hx.n2 (c 13 (by decide)) rfl
  · exact mat_at hx.g (c 14 (by decide)) (c 15 (by decide)) (c 16 (by decide)) rfl
  · exact mat_at hx.u (c 17 (by decide)) (c 18 (by decide)) (c 19 (by decide)) rfl
  · exact mat_at hx.d (c 20 (by decide)) (c 21 (by decide)) (c 22 (by decide)) rfl
def lyF (D I : Nat) (Ls : List LayV) (y k : Nat) : Mt := match Ls[y]? with
  | some x => x.part D I k
  | none => ⟨0, 0, []⟩
theorem lays_at {W : World} {B D I n : Nat} {s : Option Addr} {c : Nat} {Ls : List LayV} (h : W.ownsRow B 83 23 (.slice s n c) n (Ls.flatMap (LayV.cells D I))) (hl : Ls.length = n) (hx : ∀ x ∈ Ls, x.own B W D I) : LaysAt W s n (lyF D I Ls) := fun hn => by
  rcases h.2 with ⟨_, rfl⟩ | ⟨g, cap, cur, e, _⟩
  · omega
  · cases e
    refine ⟨g, 0, rfl, fun y k hy h2 h10 => ?_⟩
    have hy' : y < Ls.length := by omega
    have ex : Ls[y]? = some Ls[y] := List.getElem?_eq_getElem hy'
    have e2 : lyF D I Ls y k = Ls[y].part D I k := by unfold lyF; rw [ex]
    rw [e2]
    refine part_at (hx _ (List.getElem_mem hy')) (fun i hi => ?_) k h2 h10
    have hfl := flat_at (D := D) (I := I) Ls y i _ ex hi
    have hlt : i < (LayV.cells D I Ls[y]).length := by rw [cellsL_length]; exact hi
    rw [List.getElem?_eq_getElem hlt] at hfl ⊢
    have := h.cells (g := g) rfl (y * 23 + i) _ hfl
    rwa [Tn.add_plain, ← Nat.add_assoc] at this
theorem byts_alp {B n : Nat} {W : World} {s : Option Addr} {c : Nat} (h : W.ownsRow B 5 1 (.slice s n c) n ((alp n).map (Value.int .u8))) (hn : n ≤ 12) : Bp.Byts W s c (alp n) := by
  obtain ⟨sp, cap, e, _, h2, _⟩ := Sl.all1 h
  cases e
  refine ⟨h2, fun x hx => ?_⟩
  simp only [alp, List.mem_map, List.mem_range] at hx
  obtain ⟨i, hi, rfl⟩ := hx
  omega
def vOf (V D H L X I n0 : Nat) (sv se sl sn so : Option Addr) (cv ce cl cn co : Nat) : Wv := ⟨⟨V, D, H, L, X, I⟩, sv, V, cv, none, 0, 0, V, D, se, n0, ce, sl, L, cl, sn, D, cn, V, D, so, n0, co⟩
def mOf (V D H L X I : Nat) (le ln lo : List Int) (Ls : List LayV) : Md := ⟨⟨V, D, H, L, X, I⟩, alp V, [], ⟨V, D, le⟩, L, lyF D I Ls, ln, ⟨V, D, lo⟩⟩
theorem mOf_small {V D H L X I : Nat} {le ln lo : List Int} {Ls : List LayV} (g0 : 2 ≤ V ∧ V ≤ 12) (g1 : 2 ≤ D ∧ D ≤ 4) (g2 : 1 ≤ H ∧ H ≤ 2) (g3 : 1 ≤ L ∧ L ≤ 2) (g4 : 2 ≤ X ∧ X ≤ 8) (g5 : 1 ≤ I ∧ I ≤ 4) : Small (mOf V D H L X I le ln lo Ls) := by
  unfold mOf
  exact ⟨by dsimp only; omega, by dsimp only; omega, by dsimp only; omega, by dsimp only; omega, by dsimp only; omega, by dsimp only; omega, rfl, by dsimp only; rw [alp_length]; omega, rfl⟩
theorem model_of {W : World} {B V D H L X I n0 : Nat} {sv se sl sn so : Option Addr} {cv ce cl cn co : Nat} {le ln lo : List Int} {Ls : List LayV}
    (g0 : V ≤ 12) (g3 : 1 ≤ L)
    (hA : W.ownsRow B 5 1 (.slice sv V cv) V ((alp V).map (Value.int .u8))) (hE : RowN B W n0 (.slice se n0 ce, le))
    (hLv : W.ownsRow B 83 23 (.slice sl L cl) L (Ls.flatMap (LayV.cells D I))) (hLn : Ls.length = L) (hLs : ∀ x ∈ Ls, x.own B W D I)
    (hN : RowN B W D (.slice sn D cn, ln)) (hO : RowN B W n0 (.slice so n0 co, lo)) :
    WvOK W (vOf V D H L X I n0 sv se sl sn so cv ce cl cn co) (mOf V D H L X I le ln lo Ls) := by
  obtain ⟨hc1, hc2⟩ : L ≤ cl ∧ cl ≤ maxLen := by
    rcases hLv.2 with ⟨e, h⟩ | ⟨g, cap, cur, e, _, _, h1, h2, _⟩
    · omega
    · cases e; exact ⟨h1, h2⟩
  obtain ⟨e1, e2⟩ := rowN_nums hE
  obtain ⟨n1, n2⟩ := rowN_nums hN
  obtain ⟨o1, o2⟩ := rowN_nums hO
  have hps : Bp.Prs W none 0 [] := ⟨Nat.le_refl _, by unfold maxLen; omega, fun _ => rfl, fun h => absurd h (by simp)⟩
  exact ⟨rfl, byts_alp hA g0, (alp_length V).symm, hps, rfl, rfl, rfl, e2, e1.symm, lays_at hLv hLn hLs, rfl, ⟨hc1, hc2⟩, n2, n1.symm, rfl, rfl, o2, o1.symm⟩
theorem lay_val {W : World} {B n : Nat} {lv : Value} {xs : List Value} (h : W.ownsRow B 83 23 lv n xs) (hn : 1 ≤ n) : ∃ sl cl, lv = .slice sl n cl := by
  rcases h.2 with ⟨_, h⟩ | ⟨g, cap, cur, e, _⟩
  · omega
  · exact ⟨_, _, e⟩
theorem exec_rowM {P : Program} {a : Act} {o : Oper} {W : World} (ty : TypeId) (x : Operand) (ho : o.op = .load ty x) (g : Nat) (hx : a.eval x = .pointer (some ⟨g, 0, none⟩)) (t : TypeId) (cs : Array Value) (fr : Nat × Nat) (d : TypeDesc) (hg : W.heap[g]? = some (.cells cs t fr))
    (hu : P.underlying ty = some d) (hd : (match d with | .struct _ | .array _ _ => true | _ => false) = true) (hi : (P.info? ty).map (·.size) = some cs.size) : (execOp a.eval o).run P W = .ok (.value (.agg cs)) W := by
  unfold execOp
  simp only [ho, hx, Instr.loadAt, Instr.sureAddr, Sem.run_bind, Sem.run_pure, Result.andThen_ok, run_loadVar_row W g t ty cs fr d hg hu hd hi]
theorem gives_rowM {P : Program} {a : Act} {o : Oper} {W : World} {G : Value → World → Prop} (ty : TypeId) (x y : Operand) (ho : o.op = .store ty x y) (g : Nat) (cells : Array Value) (hx : a.eval x = .pointer (some ⟨g, 0, none⟩)) (hy : a.eval y = .agg cells) (t : TypeId) (old : Array Value) (hg : W.heap[g]? = some (.cells old t (0, 0)))
    (hi : (P.info? ty).map (·.size) = some cells.size) (hold : old.size = cells.size) (h1 : cells.all (·.oneCell') = true) (hG : G undef (W.setRow g cells)) : Gives P o a W G := by
  unfold Gives execOp
  simp only [ho, hx, hy, Instr.storeAt, Instr.sureAddr, Sem.run_bind, Sem.run_pure, Result.andThen_ok, run_storeVar_row W g t ty old cells hg hi hold h1]
  exact hG
theorem exec_eqE {a : Act} {o : Oper} {W : World} (x y : Operand) (ho : o.op = .binOp .eql 52 x y 52) (u v : Int) (b : Bool) (hx : a.eval x = .int .i64 u) (hy : a.eval y = .int .i64 v) (h : decide (u = v) = b) : (execOp a.eval o).run Try.prog W = .ok (.value (.bool b)) W := by
  subst h
  unfold execOp
  simp [ho, hx, hy, binOp, Op.intCmp, eqGuard]
  rfl
theorem grown_row {w W : World} {r : Nat} (h : w.grownBy W (some r)) (cs : Array Value) : w.grownBy (W.setRow r cs) (some r) :=
  ⟨h.os, h.tape, h.output, by simp; exact h.size, fun k hk hne => (setRow_other _ _ _ _ (fun e => hne (by rw [e]))).trans (h.block k hk hne)⟩
theorem wv_one (v : Wv) : v.cells.all (·.oneCell') = true := by kernel_rfl
theorem size_wv (v : Wv) : (Try.prog.info? 38).map (·.size) = some v.cells.size := by kernel_rfl
end Go.Proofs.Ytdffbjjiojheoaa.Mk
