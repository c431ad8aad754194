/- Signs of p + q*sqrt(3) by a solution of Pell's equation: the sign is that of a linear form. No program. -/
namespace Go.Proofs.YtbjjlngchidikaaDoor
def sg (p q : Int) : Int := bif decide (3 * (q * q) < p * p) then p.sign else q.sign
def PA : Int := 2011930833870518011412817828051050497
def PB : Int := 1161588808526051807570761628582646656
theorem pell : PA * PA = 3 * (PB * PB) + 1 := by decide
theorem PB_pos : 0 < PB := by decide
theorem PA_pos : 0 < PA := by decide
theorem PB_big : 1000000000000000000000000000000000 < PB := by decide
theorem PB_PA : PB < PA := by decide
theorem abs_lt_iff {a b : Int} : a.natAbs < b.natAbs ↔ a * a < b * b := by
  rw [← Int.natAbs_mul_self (a := a), ← Int.natAbs_mul_self (a := b), Int.ofNat_lt]
  constructor
  · intro h; exact Nat.mul_self_lt_mul_self h
  · intro h
    refine Classical.byContradiction fun hc => ?_
    have := Nat.mul_le_mul (Nat.le_of_not_lt hc) (Nat.le_of_not_lt hc)
    omega
theorem sign_add {x y : Int} (h : y * y < x * x) : (x + y).sign = x.sign := by
  have h := abs_lt_iff.2 h
  rcases Int.lt_trichotomy x 0 with h1 | h1 | h1
  · rw [Int.sign_eq_neg_one_of_neg h1, Int.sign_eq_neg_one_of_neg (by omega)]
  · omega
  · rw [Int.sign_eq_one_of_pos h1, Int.sign_eq_one_of_pos (by omega)]
theorem sign_mul_pos (x : Int) {k : Int} (hk : 0 < k) : (x * k).sign = x.sign := by
  rw [Int.sign_mul, Int.sign_eq_one_of_pos hk, Int.mul_one]
theorem sq_lt {q b : Int} (h1 : -b < q) (h2 : q < b) : q * q < b * b := abs_lt_iff.1 (by omega)
theorem mul_swap4 (p b : Int) : (p * b) * (p * b) = (p * p) * (b * b) := by grind
/-- the sign is that of a linear form -/
theorem sg_lin {p q : Int} (h1 : -PB < q) (h2 : q < PB) : sg p q = (p * PB + q * PA).sign := by
  have hq := sq_lt h1 h2
  have e1 := mul_swap4 p PB
  have e2 := mul_swap4 q PA
  rw [pell] at e2
  have hb : 0 < PB * PB := Int.mul_pos PB_pos PB_pos
  unfold sg
  by_cases h : 3 * (q * q) < p * p
  · simp only [h, decide_true, cond_true]
    rw [sign_add, sign_mul_pos _ PB_pos]
    rw [e1, e2]
    have h3 : (3 * (q * q) + 1) * (PB * PB) ≤ (p * p) * (PB * PB) := Int.mul_le_mul_of_nonneg_right (by omega) (by omega)
    have h4 : (3 * (q * q) + 1) * (PB * PB) = q * q * (3 * (PB * PB)) + PB * PB := by grind
    have h5 : q * q * (3 * (PB * PB) + 1) = q * q * (3 * (PB * PB)) + q * q := by grind
    omega
  · simp only [h, decide_false, cond_false]
    rw [Int.add_comm]
    by_cases h0 : q = 0
    · subst h0
      have hp : p * p ≤ 0 := by omega
      have hp0 : p = 0 := by
        rcases Int.lt_trichotomy p 0 with h1 | h1 | h1
        · have := Int.mul_pos_of_neg_of_neg h1 h1; omega
        · exact h1
        · have := Int.mul_pos h1 h1; omega
      subst hp0; simp
    · rw [sign_add, sign_mul_pos _ PA_pos]
      rw [e1, e2]
      have h3 : (p * p) * (PB * PB) ≤ (3 * (q * q)) * (PB * PB) := Int.mul_le_mul_of_nonneg_right (by omega) (by omega)
      have h4 : (3 * (q * q)) * (PB * PB) = q * q * (3 * (PB * PB)) := by grind
      have h5 : q * q * (3 * (PB * PB) + 1) = q * q * (3 * (PB * PB)) + q * q := by grind
      have h6 : 0 < q * q := by
        rcases Int.lt_trichotomy q 0 with h1 | h1 | h1
        · exact Int.mul_pos_of_neg_of_neg h1 h1
        · exact absurd h1 h0
        · exact Int.mul_pos h1 h1
      omega
theorem sq_pos {p : Int} (h : p ≠ 0) : 0 < p * p := by
  rcases Int.lt_trichotomy p 0 with h1 | h1 | h1
  · exact Int.mul_pos_of_neg_of_neg h1 h1
  · exact absurd h1 h
  · exact Int.mul_pos h1 h1
theorem sg_zero {p q : Int} (h : sg p q = 0) : p = 0 ∧ q = 0 := by
  unfold sg at h
  have sq0 : ∀ x : Int, 0 ≤ x * x := fun x => by
    by_cases h : x = 0
    · subst h; simp
    · exact Int.le_of_lt (sq_pos h)
  have hp := sq0 p
  have hq := sq0 q
  by_cases h3 : 3 * (q * q) < p * p
  · simp only [h3, decide_true, cond_true] at h
    have := Int.sign_eq_zero_iff_zero.1 h
    subst this; omega
  · simp only [h3, decide_false, cond_false] at h
    have := Int.sign_eq_zero_iff_zero.1 h
    subst this
    refine ⟨?_, rfl⟩
    refine Classical.byContradiction fun hn => ?_
    have := sq_pos hn
    omega
theorem sg_neg (p q : Int) : sg (-p) (-q) = -sg p q := by
  unfold sg
  simp only [Int.neg_mul_neg]
  by_cases h : 3 * (q * q) < p * p <;> simp [h, Int.sign_neg]
theorem sg_scale (p q : Int) {k : Int} (hk : 0 < k) : sg (k * p) (k * q) = sg p q := by
  unfold sg
  have hkk : 0 < k * k := Int.mul_pos hk hk
  have e1 : k * p * (k * p) = (p * p) * (k * k) := by grind
  have e2 : 3 * (k * q * (k * q)) = (3 * (q * q)) * (k * k) := by grind
  rw [e1, e2]
  have : decide (3 * (q * q) * (k * k) < p * p * (k * k)) = decide (3 * (q * q) < p * p) := by
    rw [decide_eq_decide]
    exact ⟨fun h => Int.lt_of_mul_lt_mul_right h (by omega), fun h => Int.mul_lt_mul_of_pos_right h hkk⟩
  rw [this, Int.mul_comm k p, Int.mul_comm k q, sign_mul_pos _ hk, sign_mul_pos _ hk]
theorem sign_iff {x y : Int} (h1 : x < 0 ↔ y < 0) (h2 : 0 < x ↔ 0 < y) : x.sign = y.sign := by
  rcases Int.lt_trichotomy x 0 with h | h | h
  · rw [Int.sign_eq_neg_one_of_neg h, Int.sign_eq_neg_one_of_neg (h1.1 h)]
  · have : y = 0 := by omega
    rw [h, this]
  · rw [Int.sign_eq_one_of_pos h, Int.sign_eq_one_of_pos (h2.1 h)]
/-- a bounded multiple of the root of 3 is no integer -/
theorem irrational {p q : Int} (h1 : -PB < q) (h2 : q < PB) (h : p * p = 3 * (q * q)) : q = 0 := by
  refine Classical.byContradiction fun hn => ?_
  have hq := sq_lt h1 h2
  have hb : 0 < PB * PB := Int.mul_pos PB_pos PB_pos
  -- (q PA)^2 - (p PB)^2 = q^2, between two neighbours' squares it can't be
  have e : (q * PA) * (q * PA) = (p * PB) * (p * PB) + q * q := by
    rw [mul_swap4, mul_swap4, pell, h]; grind
  have h0 := sq_pos hn
  generalize hx : (q * PA).natAbs = x
  generalize hy : (p * PB).natAbs = y
  have ex : ((x * x : Nat) : Int) = (q * PA) * (q * PA) := by rw [← hx]; simp
  have ey : ((y * y : Nat) : Int) = (p * PB) * (p * PB) := by rw [← hy]; simp
  have hlt : y < x := by
    refine Classical.byContradiction fun hc => ?_
    have := Nat.mul_le_mul (Nat.le_of_not_lt hc) (Nat.le_of_not_lt hc)
    omega
  have hge : (y + 1) * (y + 1) ≤ x * x := Nat.mul_le_mul hlt hlt
  have hxb : q.natAbs * PB.natAbs ≤ x := by
    rw [← hx, Int.natAbs_mul]
    exact Nat.mul_le_mul (Nat.le_refl _) (by decide)
  have hqq : q.natAbs * q.natAbs ≤ q.natAbs * PB.natAbs := Nat.mul_le_mul (Nat.le_refl _) (by omega)
  have eqq : ((q.natAbs * q.natAbs : Nat) : Int) = q * q := by simp
  have e5 : (y + 1) * (y + 1) = y * y + 2 * y + 1 := by grind
  have e6 : (x - 1 + 1) * (x - 1 + 1) = (x - 1) * (x - 1) + 2 * (x - 1) + 1 := by grind
  have e7 : y * y ≤ (x - 1) * (x - 1) := Nat.mul_le_mul (by omega) (by omega)
  have e8 : x - 1 + 1 = x := by omega
  rw [e8] at e6
  have hq1 : 1 ≤ q.natAbs := by omega
  have : 1 * PB.natAbs ≤ q.natAbs * PB.natAbs := Nat.mul_le_mul hq1 (Nat.le_refl _)
  have hb2 : 2 ≤ PB.natAbs := by decide
  omega
/-- the sign of a product -/
theorem sg_mul {a b c d : Int} (ha : -100000 < b ∧ b < 100000) (hd : -100000 < d ∧ d < 100000) (hq : -1000000000000 < a * d + b * c ∧ a * d + b * c < 1000000000000) : sg (a * c + 3 * (b * d)) (a * d + b * c) = sg a b * sg c d := by
  have hB := PB_big
  by_cases hz : sg (a * c + 3 * (b * d)) (a * d + b * c) = 0
  · obtain ⟨h1, h2⟩ := sg_zero hz
    rw [hz]
    -- the norms' product is 0
    have hn : (a * a - 3 * (b * b)) * (c * c - 3 * (d * d)) = 0 := by
      have : (a * a - 3 * (b * b)) * (c * c - 3 * (d * d)) = (a * c + 3 * (b * d)) * (a * c + 3 * (b * d)) - 3 * ((a * d + b * c) * (a * d + b * c)) := by grind
      rw [this, h1, h2]; rfl
    rcases Int.mul_eq_zero.1 hn with h | h
    · have hb := irrational (p := a) (q := b) (by omega) (by omega) (by omega)
      subst hb
      have : a = 0 := by
        refine Classical.byContradiction fun hn => ?_
        have := sq_pos hn; omega
      subst this
      simp [sg]
    · have hb := irrational (p := c) (q := d) (by omega) (by omega) (by omega)
      subst hb
      have : c = 0 := by
        refine Classical.byContradiction fun hn => ?_
        have := sq_pos hn; omega
      subst this
      simp [sg]
  · rw [sg_lin (p := a * c + 3 * (b * d)) (q := a * d + b * c) (by omega) (by omega)] at hz ⊢
    rw [sg_lin (p := a) (q := b) (by omega) (by omega), sg_lin (p := c) (q := d) (by omega) (by omega), ← Int.sign_mul]
    have e : (a * PB + b * PA) * (c * PB + d * PA) = ((a * c + 3 * (b * d)) * PB + (a * d + b * c) * PA) * PB + b * d := by
      have := pell
      have : b * d * (PA * PA) = b * d * (3 * (PB * PB) + 1) := by rw [pell]
      grind
    rw [e]
    generalize (a * c + 3 * (b * d)) * PB + (a * d + b * c) * PA = l at *
    have hl : l ≠ 0 := fun h => hz (by rw [h]; rfl)
    have hbd : (b * d).natAbs ≤ 100000 * 100000 := by rw [Int.natAbs_mul]; exact Nat.mul_le_mul (by omega) (by omega)
    rw [sign_add]
    · rw [sign_mul_pos _ PB_pos]
    · refine abs_lt_iff.1 ?_
      rw [Int.natAbs_mul l PB]
      have : 1 * PB.natAbs ≤ l.natAbs * PB.natAbs := Nat.mul_le_mul (by omega) (Nat.le_refl _)
      omega
end Go.Proofs.YtbjjlngchidikaaDoor
