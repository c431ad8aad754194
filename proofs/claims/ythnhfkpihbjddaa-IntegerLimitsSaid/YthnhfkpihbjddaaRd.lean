/- Integers as values; the order of digits. No program. -/
import Derived.Test.YthnhfkpihbjddaaRc
namespace Go.Proofs.Ythnhfkpihbjddaa
open Go.VD
set_option linter.unusedVariables false
set_option linter.unusedSimpArgs false

def cmpN (a b : Nat) : Int := if a < b then -1 else if b < a then 1 else 0
theorem cmpTop_nv {xs ys : List Nat} (hx : Dig xs) (hy : Dig ys) : ∀ n, n ≤ xs.length → n ≤ ys.length → cmpTop xs ys n = cmpN (nv (xs.take n)) (nv (ys.take n))
  | 0, _, _ => by simp [cmpTop, cmpN, nv]
  | n + 1, h1, h2 => by
    have ih := cmpTop_nv hx hy n (by omega) (by omega)
    have e1 := nv_take_succ xs n (by omega)
    have e2 := nv_take_succ ys n (by omega)
    have l1 := nv_lt (hx.take n)
    have l2 := nv_lt (hy.take n)
    rw [List.length_take, Nat.min_eq_left (by omega)] at l1 l2
    have key : ∀ a b P : Nat, a < b → a * P + P ≤ b * P := fun a b P h => by
      have := Nat.mul_le_mul_right P (show a + 1 ≤ b from h)
      rwa [Nat.add_mul, Nat.one_mul] at this
    unfold cmpTop
    rw [e1, e2, ih]
    unfold cmpN
    generalize nv (xs.take n) = a at *
    generalize nv (ys.take n) = b at *
    generalize xs.getD n 0 = x at *
    generalize ys.getD n 0 = y at *
    generalize 4294967296 ^ n = P at *
    rcases Nat.lt_trichotomy x y with h | h | h
    · have := key x y P h
      rw [if_pos h, if_pos (by omega)]
    · subst h
      simp only [Nat.lt_irrefl, if_false, Nat.add_lt_add_iff_right]
    · have := key y x P h
      rw [if_neg (by omega), if_pos h, if_neg (by omega), if_pos (by omega)]
theorem cmpL_dg (a b : Nat) : cmpL (dg a) (dg b) = cmpN a b := by
  unfold cmpL
  have ha := lt_of_dg_length (v := a) (Nat.le_refl _)
  have hb := lt_of_dg_length (v := b) (Nat.le_refl _)
  by_cases h : (dg a).length = (dg b).length
  · rw [if_neg (fun k => k h), cmpTop_nv (dg_dig a) (dg_dig b) _ (Nat.le_refl _) (by omega), List.take_length, h, List.take_length, nv_dg, nv_dg]
  · rw [if_pos h]
    by_cases h2 : (dg a).length < (dg b).length
    · rw [if_pos h2]
      have : ¬ b < 4294967296 ^ (dg a).length := fun k => by have := dg_length_le k; omega
      unfold cmpN
      rw [if_pos (by omega)]
    · rw [if_neg h2]
      have : ¬ a < 4294967296 ^ (dg b).length := fun k => by have := dg_length_le k; omega
      unfold cmpN
      rw [if_neg (by omega), if_pos (by omega)]
/-- the value -/
def iv (n : Bool) (xs : List Nat) : Int := if n then -(nv xs : Int) else (nv xs : Int)
def Good (n : Bool) (xs : List Nat) : Prop := xs = dg (nv xs) ∧ (n = true → nv xs ≠ 0)
theorem iv_of (v : Int) : iv (decide (v < 0)) (ofL v) = v := by
  unfold iv ofL
  rw [nv_dg]
  by_cases h : v < 0
  · simp [h]; omega
  · simp [h]; omega
theorem good_of (v : Int) : Good (decide (v < 0)) (ofL v) := by
  refine ⟨by unfold ofL; rw [nv_dg], fun h => ?_⟩
  unfold ofL
  rw [nv_dg]
  simp only [decide_eq_true_eq] at h
  omega
theorem good_zero : Good false [] := ⟨by rw [nv, dg_zero], by simp⟩
theorem iv_zero : iv false [] = 0 := by simp [iv, nv]
theorem good_eq {n : Bool} {xs : List Nat} (h : Good n xs) : n = decide (iv n xs < 0) ∧ xs = ofL (iv n xs) := by
  obtain ⟨h1, h2⟩ := h
  unfold ofL iv
  cases n with
  | false => refine ⟨by simp, ?_⟩; simp only [Bool.false_eq_true, if_false, Int.natAbs_natCast]; exact h1
  | true =>
    have := h2 rfl
    refine ⟨?_, ?_⟩
    · simp; omega
    · simp only [if_true, Int.natAbs_neg, Int.natAbs_natCast]; exact h1
theorem good_dig {n : Bool} {xs : List Nat} (h : Good n xs) : Dig xs := by rw [h.1]; exact dg_dig _
theorem last_dg {v : Nat} (h : v ≠ 0) : (dg v).length ≠ 0 ∧ (dg v).getD ((dg v).length - 1) 0 ≠ 0 := by
  have e := tn_dg v
  have hl : 0 < (dg v).length := by rw [dg_pos h]; simp
  refine ⟨by omega, fun h0 => ?_⟩
  obtain ⟨n, hn⟩ : ∃ n, (dg v).length = n + 1 := ⟨(dg v).length - 1, by omega⟩
  rw [hn] at e h0
  simp only [Nat.add_sub_cancel] at h0
  rw [tn, if_pos h0] at e
  have := tn_le (dg v) n
  omega
theorem good_valid {n : Bool} {xs : List Nat} (h : Good n xs) (hl : xs.length ≤ 400) : validL n xs = true := by
  obtain ⟨h1, h2⟩ := h
  unfold validL
  by_cases h0 : nv xs = 0
  · have e : xs = [] := by rw [h1, h0, dg_zero]
    subst e
    cases n with
    | false => rfl
    | true => exact absurd rfl (h2 rfl)
  · have := last_dg h0
    rw [← h1] at this
    rw [if_neg this.1]
    simp only [Bool.and_eq_true, decide_eq_true_eq]
    exact ⟨hl, this.2⟩
def cmpZ (a b : Int) : Int := if a < b then -1 else if b < a then 1 else 0
theorem cmpI_good {xn yn : Bool} {xs ys : List Nat} (hx : Good xn xs) (hy : Good yn ys) (lx : xs.length ≤ 400) (ly : ys.length ≤ 400) : cmpI xn xs yn ys = cmpZ (iv xn xs) (iv yn ys) := by
  unfold cmpI
  rw [good_valid hx lx, good_valid hy ly]
  have e1 : cmpL xs ys = cmpN (nv xs) (nv ys) := by rw [hx.1, hy.1, cmpL_dg, ← hx.1, ← hy.1]
  have e2 : cmpL ys xs = cmpN (nv ys) (nv xs) := by rw [hx.1, hy.1, cmpL_dg, ← hx.1, ← hy.1]
  rw [e1, e2]
  have h1 := hx.2
  have h2 := hy.2
  unfold cmpN cmpZ iv
  cases xn <;> cases yn <;> simp at h1 h2 ⊢ <;> grind
theorem cmpZ_zero (a : Int) : cmpZ a 0 = a.sign := by
  unfold cmpZ
  rcases Int.lt_trichotomy a 0 with h | h | h
  · rw [if_pos h, Int.sign_eq_neg_one_of_neg h]
  · subst h; rfl
  · rw [if_neg (by omega), if_pos h, Int.sign_eq_one_of_pos h]
theorem ofL_len {v : Int} {k : Nat} (h : v.natAbs < 4294967296 ^ k) : (ofL v).length ≤ k := dg_length_le h
theorem mul_iv (xn yn : Bool) (xs ys : List Nat) : madeN (xn != yn) (dg (nv xs * nv ys)) = decide (iv xn xs * iv yn ys < 0) ∧ trimL (dg (nv xs * nv ys)) = ofL (iv xn xs * iv yn ys) := by
  have h := madeN_dg (xn != yn) (nv xs * nv ys)
  have hz : ((nv xs * nv ys : Nat) : Int) = (nv xs : Int) * (nv ys : Int) := by simp
  refine ⟨?_, ?_⟩
  · rw [h.1]
    unfold iv
    cases xn <;> cases yn <;> simp only [if_true, Bool.false_eq_true, if_false, Int.neg_mul, Int.mul_neg, Int.neg_neg, ← hz] <;> generalize nv xs * nv ys = q <;> rw [Bool.eq_iff_iff] <;> simp <;> omega
  · rw [h.2]
    unfold ofL iv
    congr 1
    cases xn <;> cases yn <;> simp [Int.natAbs_mul]
theorem dg_mul_len {xs ys : List Nat} (hx : Dig xs) (hy : Dig ys) : (dg (nv xs * nv ys)).length ≤ xs.length + ys.length := by
  apply dg_length_le
  rw [Nat.pow_add]
  exact Nat.mul_lt_mul'' (nv_lt hx) (nv_lt hy)
end Go.Proofs.Ythnhfkpihbjddaa
