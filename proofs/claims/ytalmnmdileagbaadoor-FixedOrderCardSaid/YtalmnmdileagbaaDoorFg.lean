import Derived.Test.YtalmnmdileagbaaDoorFf
namespace Go.Proofs.YtalmnmdileagbaaDoor.Fx

/-! ### what answers say of each other -/
theorem add_zero {a b : Int} (h : addE a b = 0) : isN a ∧ isN b ∧ isN (a + b) ∧ addR a b = a + b := by
  unfold addE addR at *
  by_cases h1 : isN a ∧ isN b
  · rw [if_pos h1] at h ⊢
    unfold err res at *
    by_cases h2 : isN (a + b)
    · rw [if_pos h2]; exact ⟨h1.1, h1.2, h2, rfl⟩
    · rw [if_neg h2] at h; omega
  · rw [if_neg h1] at h; omega
theorem mul_zero {a b : Int} (h : mulE a b = 0) : isN a ∧ isN b ∧ isN (rnd (a * b)) ∧ mulR a b = rnd (a * b) := by
  unfold mulE mulR at *
  by_cases h1 : isN a ∧ isN b
  · rw [if_pos h1] at h ⊢
    unfold err res at *
    by_cases h2 : isN (rnd (a * b))
    · rw [if_pos h2]; exact ⟨h1.1, h1.2, h2, rfl⟩
    · rw [if_neg h2] at h; omega
  · rw [if_neg h1] at h; omega
theorem div_zero {a b : Int} (h : divE a b = 0) : isN a ∧ isN b ∧ b ≠ 0 ∧ isN (dv a b) ∧ divR a b = dv a b := by
  unfold divE divR at *
  by_cases h1 : isN a ∧ isN b
  · rw [if_pos h1] at h
    by_cases hz : b = 0
    · rw [if_pos hz] at h; omega
    · rw [if_neg hz] at h
      rw [if_pos ⟨h1.1, h1.2, hz⟩]
      unfold err res at *
      by_cases h2 : isN (dv a b)
      · rw [if_pos h2]; exact ⟨h1.1, h1.2, hz, h2, rfl⟩
      · rw [if_neg h2] at h; omega
  · rw [if_neg h1] at h; omega
theorem add_comm' (a b : Int) : addR b a = addR a b ∧ addE b a = addE a b := by
  unfold addR addE
  rw [Int.add_comm b a]
  by_cases h : isN a ∧ isN b
  · rw [if_pos h, if_pos h, if_pos ⟨h.2, h.1⟩, if_pos ⟨h.2, h.1⟩]; exact ⟨rfl, rfl⟩
  · rw [if_neg h, if_neg h, if_neg (fun hh => h ⟨hh.2, hh.1⟩), if_neg (fun hh => h ⟨hh.2, hh.1⟩)]; exact ⟨rfl, rfl⟩
theorem mul_comm' (a b : Int) : mulR b a = mulR a b ∧ mulE b a = mulE a b := by
  unfold mulR mulE
  rw [Int.mul_comm b a]
  by_cases h : isN a ∧ isN b
  · rw [if_pos h, if_pos h, if_pos ⟨h.2, h.1⟩, if_pos ⟨h.2, h.1⟩]; exact ⟨rfl, rfl⟩
  · rw [if_neg h, if_neg h, if_neg (fun hh => h ⟨hh.2, hh.1⟩), if_neg (fun hh => h ⟨hh.2, hh.1⟩)]; exact ⟨rfl, rfl⟩
theorem add_sub {a b : Int} (ha : isN a) (hs : isN (a + b)) (hb : isN (-b)) : addR (a + b) (-b) = a ∧ addE (a + b) (-b) = 0 := by
  unfold addR addE
  rw [if_pos ⟨hs, hb⟩, if_pos ⟨hs, hb⟩, show a + b + -b = a by omega]
  unfold res err
  rw [if_pos ha, if_pos ha]
  exact ⟨rfl, rfl⟩
theorem div_yes {a b : Int} (ha : isN a) (hb : isN b) (hz : b ≠ 0) (h : isN (dv a b)) : divR a b = dv a b ∧ divE a b = 0 := by
  unfold divR divE
  rw [if_pos ⟨ha, hb, hz⟩, if_pos ⟨ha, hb⟩, if_neg hz]
  unfold res err
  rw [if_pos h, if_pos h]
  exact ⟨rfl, rfl⟩
theorem div_over {a b : Int} (ha : isN a) (hb : isN b) (hz : b ≠ 0) (h : ¬ isN (dv a b)) : divE a b = 17 := by
  unfold divE
  rw [if_pos ⟨ha, hb⟩, if_neg hz]
  unfold err
  rw [if_neg h]
theorem root_zero {n : Int} (h : rootE n = 0) : IsRoot (n * 65536) (rootR n) := by
  unfold rootE rootR at *
  by_cases h1 : isN n ∧ 0 ≤ n
  · rw [if_pos h1]; exact rootGo_n h1.1 h1.2
  · rw [if_neg h1] at h; omega
theorem add_mono {a b c : Int} (h : a ≤ b) (h1 : addE a c = 0) (h2 : addE b c = 0) : addR a c ≤ addR b c := by
  have := (add_zero h1).2.2.2
  have := (add_zero h2).2.2.2
  omega
theorem mul_up {a b c : Int} (h : a ≤ b) (hc : 0 ≤ c) (h1 : mulE a c = 0) (h2 : mulE b c = 0) : mulR a c ≤ mulR b c := by
  rw [(mul_zero h1).2.2.2, (mul_zero h2).2.2.2]
  exact mul_order_pos hc h
theorem mul_down {a b c : Int} (h : a ≤ b) (hc : c ≤ 0) (h1 : mulE a c = 0) (h2 : mulE b c = 0) : mulR b c ≤ mulR a c := by
  rw [(mul_zero h1).2.2.2, (mul_zero h2).2.2.2]
  exact mul_order_neg hc h
theorem div_up {a b c : Int} (h : a ≤ b) (hc : 0 < c) (h1 : divE a c = 0) (h2 : divE b c = 0) : divR a c ≤ divR b c := by
  rw [(div_zero h1).2.2.2.2, (div_zero h2).2.2.2.2]
  exact dv_mono_pos hc h
theorem div_down {a b c : Int} (h : a ≤ b) (hc : c < 0) (h1 : divE a c = 0) (h2 : divE b c = 0) : divR b c ≤ divR a c := by
  rw [(div_zero h1).2.2.2.2, (div_zero h2).2.2.2.2]
  exact dv_mono_neg hc h
theorem root_mono {a b : Int} (h : a ≤ b) (h1 : rootE a = 0) (h2 : rootE b = 0) : rootR a ≤ rootR b :=
  IsRoot.le (by omega) (root_zero h1) (root_zero h2)

end Go.Proofs.YtalmnmdileagbaaDoor.Fx
