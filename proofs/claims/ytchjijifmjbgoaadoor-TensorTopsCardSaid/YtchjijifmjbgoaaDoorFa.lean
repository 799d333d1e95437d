namespace Go.Proofs.YtchjijifmjbgoaaDoor.Fx

/-! ### numbers in fixed point (mathematics) -/
/-- a number of the document's -/
def isN (n : Int) : Prop := -2147483648 ≤ n ∧ n ≤ 2147483647
instance (n : Int) : Decidable (isN n) := inferInstanceAs (Decidable (_ ∧ _))
/-- divided by 65536, rounded -/
def rnd (n : Int) : Int := (n + 32768) / 65536
/-- a times 65536 divided by b -/
def dv (a b : Int) : Int := if b < 0 then -(a * 65536) / -b else a * 65536 / b

theorem rnd_le (n : Int) : 65536 * rnd n ≤ n + 32768 := by unfold rnd; omega
theorem lt_rnd (n : Int) : n + 32768 < 65536 * rnd n + 65536 := by unfold rnd; omega
theorem rnd_mono {a b : Int} (h : a ≤ b) : rnd a ≤ rnd b := by unfold rnd; omega
theorem rnd_mul (a : Int) : rnd (a * 65536) = a := by unfold rnd; omega

/-- between two neighbours -/
theorem dv_pos {a b : Int} (hb : 0 < b) : dv a b * b ≤ a * 65536 ∧ a * 65536 < dv a b * b + b := by
  have h : dv a b = a * 65536 / b := by unfold dv; rw [if_neg (by omega)]
  rw [h]
  have h1 := Int.ediv_mul_le (a * 65536) (show b ≠ 0 by omega)
  have h2 := Int.lt_ediv_add_one_mul_self (a * 65536) hb
  rw [Int.add_mul, Int.one_mul] at h2
  exact ⟨h1, h2⟩
theorem dv_neg {a b : Int} (hb : b < 0) : a * 65536 ≤ dv a b * b ∧ dv a b * b + b < a * 65536 := by
  have h : dv a b = -(a * 65536) / -b := by unfold dv; rw [if_pos hb]
  rw [h]
  have h1 := Int.ediv_mul_le (-(a * 65536)) (show -b ≠ 0 by omega)
  have h2 := Int.lt_ediv_add_one_mul_self (-(a * 65536)) (show 0 < -b by omega)
  rw [Int.add_mul, Int.one_mul] at h2
  rw [Int.mul_neg] at h1 h2
  omega

/-- x times b no greater than y times b -/
theorem le_of_mul {x y b : Int} (hb : 0 < b) (h : x * b < y * b + b) : x ≤ y := by
  have h' : x * b < (y + 1) * b := by rw [Int.add_mul, Int.one_mul]; exact h
  have := Int.lt_of_mul_lt_mul_right h' (by omega)
  omega
theorem dv_mono_pos {a b c : Int} (hc : 0 < c) (h : a ≤ b) : dv a c ≤ dv b c := by
  have h1 := dv_pos (a := a) hc
  have h2 := dv_pos (a := b) hc
  exact le_of_mul hc (by omega)
theorem dv_mono_neg {a b c : Int} (hc : c < 0) (h : a ≤ b) : dv b c ≤ dv a c := by
  have h1 := dv_neg (a := a) hc
  have h2 := dv_neg (a := b) hc
  refine le_of_mul (b := -c) (by omega) ?_
  rw [Int.mul_neg, Int.mul_neg]
  omega

/-- the size of a number, and how far the quotient may be -/
theorem dv_near {a b : Int} (hb : b ≠ 0) (q : Int) (hq : q = 32768 / (if 0 ≤ b then b else -b)) : dv (rnd (a * b)) b - a ≤ q + 1 ∧ a - dv (rnd (a * b)) b ≤ q + 1 := by
  have r1 := rnd_le (a * b)
  have r2 := lt_rnd (a * b)
  obtain ⟨p, hp⟩ : ∃ p, rnd (a * b) = p := ⟨_, rfl⟩
  rw [hp] at r1 r2 ⊢
  obtain ⟨x, hx⟩ : ∃ x, dv p b = x := ⟨_, rfl⟩
  by_cases h0 : 0 ≤ b
  · have hb' : 0 < b := by omega
    rw [if_pos h0] at hq
    have h := dv_pos (a := p) hb'
    rw [hx] at h ⊢
    have q2 := Int.lt_ediv_add_one_mul_self 32768 hb'
    rw [← hq, Int.add_mul, Int.one_mul] at q2
    have e1 : (x - a) * b = x * b - a * b := Int.sub_mul _ _ _
    have e2 : (a - x) * b = a * b - x * b := Int.sub_mul _ _ _
    have e3 : (q + 1) * b = q * b + b := by rw [Int.add_mul, Int.one_mul]
    constructor
    · exact le_of_mul hb' (by rw [e1, e3]; omega)
    · exact le_of_mul hb' (by rw [e2, e3]; omega)
  · have hb' : b < 0 := by omega
    have hc : 0 < -b := by omega
    rw [if_neg h0] at hq
    have h := dv_neg (a := p) hb'
    rw [hx] at h ⊢
    have q2 := Int.lt_ediv_add_one_mul_self 32768 hc
    rw [← hq, Int.add_mul, Int.one_mul, Int.mul_neg] at q2
    have e1 : (x - a) * -b = a * b - x * b := by rw [Int.mul_neg, Int.sub_mul]; omega
    have e2 : (a - x) * -b = x * b - a * b := by rw [Int.mul_neg, Int.sub_mul]; omega
    have e3 : (q + 1) * -b = -(q * b) - b := by rw [Int.mul_neg, Int.add_mul, Int.one_mul]; omega
    constructor
    · exact le_of_mul hc (by rw [e1, e3]; omega)
    · exact le_of_mul hc (by rw [e2, e3]; omega)

/-! #### roots -/
/-- the greatest whole number whose square is no greater -/
def IsRoot (m r : Int) : Prop := 0 ≤ r ∧ r * r ≤ m ∧ m < (r + 1) * (r + 1)
theorem sq_lt {x y : Int} (hx : 0 ≤ x) (hy : 0 ≤ y) (h : x * x < y * y) : x < y := by
  refine Int.lt_of_not_ge fun hyx => ?_
  have := Int.mul_le_mul hyx hyx hy hx
  omega
theorem IsRoot.le {m n r s : Int} (h : m ≤ n) (hr : IsRoot m r) (hs : IsRoot n s) : r ≤ s := by
  obtain ⟨r0, r1, _⟩ := hr
  obtain ⟨s0, _, s2⟩ := hs
  have := sq_lt r0 (show 0 ≤ s + 1 by omega) (by omega)
  omega
theorem IsRoot.unique {m r s : Int} (hr : IsRoot m r) (hs : IsRoot m s) : r = s := by
  have h1 := IsRoot.le (Int.le_refl m) hr hs
  have h2 := IsRoot.le (Int.le_refl m) hs hr
  omega
/-- a root of a number of the document's is one, too -/
theorem IsRoot.small {n r : Int} (hn : n ≤ 2147483647) (hr : IsRoot (n * 65536) r) : r ≤ 11863283 := by
  obtain ⟨r0, r1, _⟩ := hr
  have := sq_lt r0 (show (0 : Int) ≤ 11863284 by omega) (by omega)
  omega

/-! #### the reference's root, bit by bit -/
/-- what comes of one bit and those below it -/
def rootGo (m : Int) : Nat → Int → Int
  | 0, out => out
  | k + 1, out => rootGo m k (if (out + 2 ^ k) * (out + 2 ^ k) ≤ m then out + 2 ^ k else out)
theorem rootGo_is (m : Int) : ∀ (k : Nat) (out : Int), 0 ≤ out → out * out ≤ m → m < (out + 2 ^ k) * (out + 2 ^ k) → IsRoot m (rootGo m k out)
  | 0, out, h0, h1, h2 => ⟨h0, h1, by rw [Int.pow_zero] at h2; exact h2⟩
  | k + 1, out, h0, h1, h2 => by
    have hp : (0 : Int) < 2 ^ k := Int.pow_pos (by omega)
    unfold rootGo
    split
    · rename_i h
      exact rootGo_is m k _ (by omega) h (by rw [show out + 2 ^ k + 2 ^ k = out + 2 ^ (k + 1) by rw [Int.pow_succ]; omega]; exact h2)
    · rename_i h
      exact rootGo_is m k _ h0 h1 (by omega)

/-! #### Exp -/
def stepsL : List Int := [22, 1200, 8869, 24109, 39750, 51039, 57835, 61565, 63520, 64520, 65026, 65280, 65408, 65472, 65504, 65520, 65528, 65532, 65534, 65535]
/-- step by step, the greatest bit first; so many bits as steps -/
def exGo : List Int → Int → Int → Int
  | [], _, out => out
  | s :: ss, m, out => if m / 2 ^ ss.length % 2 = 1 then exGo ss m (rnd (out * s)) else exGo ss m out
def ex (n : Int) : Int := if n ≤ -1048576 then 0 else exGo stepsL (-n) 65536
theorem rnd_step {out s : Int} (h0 : 0 ≤ out) (hs0 : 0 ≤ s) (hs : s ≤ 65536) : 0 ≤ rnd (out * s) ∧ rnd (out * s) ≤ out := by
  have h1 : 0 ≤ out * s := Int.mul_nonneg h0 hs0
  have h2 : out * s ≤ out * 65536 := Int.mul_le_mul_of_nonneg_left hs h0
  have h3 := rnd_mono h1
  have h4 := rnd_mono h2
  rw [rnd_mul] at h4
  have h5 : rnd 0 = 0 := by decide
  omega
theorem exGo_le : ∀ (ss : List Int) (m out : Int), (∀ s ∈ ss, 0 ≤ s ∧ s ≤ 65536) → 0 ≤ out → 0 ≤ exGo ss m out ∧ exGo ss m out ≤ out
  | [], _, out, _, h0 => ⟨h0, Int.le_refl _⟩
  | s :: ss, m, out, hs, h0 => by
    have h1 := hs s (List.mem_cons_self ..)
    have h2 := rnd_step h0 h1.1 h1.2
    have ht : ∀ s ∈ ss, 0 ≤ s ∧ s ≤ 65536 := fun x hx => hs x (List.mem_cons_of_mem _ hx)
    unfold exGo
    split
    · have := exGo_le ss m _ ht h2.1
      omega
    · exact exGo_le ss m out ht h0
theorem steps_in : ∀ s ∈ stepsL, 0 ≤ s ∧ s ≤ 65536 := by decide
theorem ex_le (n : Int) : 0 ≤ ex n ∧ ex n ≤ 65536 := by
  unfold ex
  split
  · omega
  · exact exGo_le stepsL _ _ steps_in (by omega)
/-- the reference's way: by what is left -/
def exRest : List Int → Int → Int → Int
  | [], _, out => out
  | s :: ss, r, out => if 2 ^ ss.length ≤ r then exRest ss (r - 2 ^ ss.length) (rnd (out * s)) else exRest ss r out
theorem exRest_eq : ∀ (ss : List Int) (m r out : Int), 0 ≤ r → r < 2 ^ ss.length → (∃ k : Int, m = r + k * 2 ^ ss.length) → exRest ss r out = exGo ss m out
  | [], _, _, _, _, _, _ => rfl
  | s :: ss, m, r, out, h0, h1, ⟨k, hk⟩ => by
    have hp : (0 : Int) < 2 ^ ss.length := Int.pow_pos (by omega)
    rw [List.length_cons, Int.pow_succ] at h1 hk
    obtain ⟨P, hP⟩ : ∃ P : Int, 2 ^ ss.length = P := ⟨_, rfl⟩
    rw [hP] at hp h1 hk
    have hk2 : k * (P * 2) = (2 * k) * P := by rw [Int.mul_comm P 2, ← Int.mul_assoc, Int.mul_comm k 2]
    unfold exRest exGo
    rw [hP]
    by_cases h : P ≤ r
    · have hm : m = (r - P) + (2 * k + 1) * P := by rw [Int.add_mul, Int.one_mul]; omega
      have hd : m / P = 2 * k + 1 := by rw [hm, Int.add_mul_ediv_right _ _ (by omega), Int.ediv_eq_zero_of_lt (by omega) (by omega)]; omega
      rw [if_pos h, if_pos (by rw [hd]; omega)]
      exact exRest_eq ss m (r - P) _ (by omega) (by rw [hP]; omega) ⟨2 * k + 1, by rw [hP]; exact hm⟩
    · have hm : m = r + (2 * k) * P := by omega
      have hd : m / P = 2 * k := by rw [hm, Int.add_mul_ediv_right _ _ (by omega), Int.ediv_eq_zero_of_lt (by omega) (by omega)]; omega
      rw [if_neg h, if_neg (by rw [hd]; omega)]
      exact exRest_eq ss m r _ h0 (by rw [hP]; omega) ⟨2 * k, by rw [hP]; exact hm⟩
theorem ex_rest {n : Int} (h0 : n ≤ 0) (h1 : ¬ n ≤ -1048576) : exRest stepsL (-n) 65536 = ex n := by
  unfold ex
  rw [if_neg h1]
  exact exRest_eq stepsL (-n) (-n) 65536 (by omega) (by show -n < 1048576; omega) ⟨0, by omega⟩

/-! #### Gate -/
def sg (n : Int) : Int := if n < 0 then 65536 - 4294967296 / (65536 + ex n) else 4294967296 / (65536 + ex (-n))
theorem quot_le (e : Int) (h0 : 0 ≤ e) (h1 : e ≤ 65536) : 32768 ≤ 4294967296 / (65536 + e) ∧ 4294967296 / (65536 + e) ≤ 65536 := by
  constructor
  · exact (Int.le_ediv_iff_mul_le (by omega)).2 (by omega)
  · have h := (Int.ediv_lt_iff_lt_mul (a := 4294967296) (b := 65537) (c := 65536 + e) (by omega)).2 (by omega)
    omega
theorem sg_le (n : Int) : 0 ≤ sg n ∧ sg n ≤ 65536 := by
  unfold sg
  split
  · have h := ex_le n
    have := quot_le _ h.1 h.2
    omega
  · have h := ex_le (-n)
    have := quot_le _ h.1 h.2
    omega
def gt (n : Int) : Int := rnd (n * sg n)
theorem gt_pos {n : Int} (h : 0 ≤ n) : 0 ≤ gt n ∧ gt n ≤ n := by
  have := sg_le n
  exact rnd_step h this.1 this.2
theorem gt_neg {n : Int} (h : n ≤ 0) : n ≤ gt n ∧ gt n ≤ 0 := by
  have hs := sg_le n
  have h1 : n * 65536 ≤ n * sg n := Int.mul_le_mul_of_nonpos_left h hs.2
  have h2 : n * sg n ≤ 0 := Int.mul_nonpos_of_nonpos_of_nonneg h hs.1
  have h3 := rnd_mono h1
  have h4 := rnd_mono h2
  rw [rnd_mul] at h3
  have h5 : rnd 0 = 0 := by decide
  unfold gt
  omega
theorem gt_is {n : Int} (h : isN n) : isN (gt n) := by
  unfold isN at *
  by_cases h0 : 0 ≤ n
  · have := gt_pos h0; omega
  · have := gt_neg (show n ≤ 0 by omega); omega

/-! #### order -/
theorem mul_order_pos {a b c : Int} (hc : 0 ≤ c) (h : a ≤ b) : rnd (a * c) ≤ rnd (b * c) := rnd_mono (Int.mul_le_mul_of_nonneg_right h hc)
theorem mul_order_neg {a b c : Int} (hc : c ≤ 0) (h : a ≤ b) : rnd (b * c) ≤ rnd (a * c) := rnd_mono (Int.mul_le_mul_of_nonpos_right h hc)

/-! #### the reference's ways: quotients as Go divides -/
/-- the greatest whole number no greater than a fraction, by quotient and rest -/
theorem floor_go (n d : Int) (hd : 0 < d) : (if n.tmod d < 0 then n.tdiv d - 1 else n.tdiv d) = n / d := by
  have h1 := Int.ediv_mul_le n (show d ≠ 0 by omega)
  have h2 := Int.lt_ediv_add_one_mul_self n hd
  rw [Int.add_mul, Int.one_mul] at h2
  have h3 := Int.mul_tdiv_add_tmod n d
  have h4 := Int.tmod_lt_of_pos n hd
  rw [Int.mul_comm] at h3
  by_cases hn : 0 ≤ n
  · have h5 := Int.tmod_nonneg d hn
    rw [if_neg (by omega)]
    exact Int.tdiv_eq_ediv_of_nonneg hn
  · have h5 : -d < n.tmod d := by
      have := Int.lt_tmod_of_pos n hd
      omega
    split
    · have a1 : n.tdiv d - 1 ≤ n / d := le_of_mul hd (by rw [Int.sub_mul, Int.one_mul]; omega)
      have a2 : n / d ≤ n.tdiv d - 1 := le_of_mul hd (by rw [Int.sub_mul, Int.one_mul]; omega)
      omega
    · have h6 : n.tmod d ≤ 0 := by
        have := Int.tmod_nonneg (a := -n) d (by omega)
        rw [Int.neg_tmod] at this
        omega
      have a1 : n.tdiv d ≤ n / d := le_of_mul hd (by omega)
      have a2 : n / d ≤ n.tdiv d := le_of_mul hd (by omega)
      omega
end Go.Proofs.YtchjijifmjbgoaaDoor.Fx
