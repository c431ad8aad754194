/- Twelfth roots of unity: products, powers, norms; wrapping of sums and products. No program. -/
import Derived.WalkKit
import Derived.Orders
import Derived.Test.YtbjjlngchidikaaDoorVq
import Derived.Test.YtbjjlngchidikaaDoorSm
namespace Go.Proofs.YtbjjlngchidikaaDoor
open Go.VD
set_option linter.unusedVariables false
set_option linter.unusedSimpArgs false

abbrev w64 (n : Int) : Int := IntKind.wrap IntKind.i64 n
theorem wrap_ex (a : Int) : ∃ k : Int, IntKind.wrap IntKind.i64 a = a + 18446744073709551616 * k := by
  rw [IntKind.wrap_i64]
  exact ⟨-((a + 9223372036854775808) / 18446744073709551616), by omega⟩
theorem wrap_shift (a k : Int) : IntKind.wrap IntKind.i64 (a + 18446744073709551616 * k) = IntKind.wrap IntKind.i64 a := by
  rw [IntKind.wrap_i64, IntKind.wrap_i64]; omega
theorem wrap_al (a b : Int) : IntKind.wrap IntKind.i64 (IntKind.wrap IntKind.i64 a + b) = IntKind.wrap IntKind.i64 (a + b) := by
  obtain ⟨k, e⟩ := wrap_ex a
  rw [e, show a + 18446744073709551616 * k + b = a + b + 18446744073709551616 * k by omega, wrap_shift]
theorem wrap_ar (a b : Int) : IntKind.wrap IntKind.i64 (a + IntKind.wrap IntKind.i64 b) = IntKind.wrap IntKind.i64 (a + b) := by
  rw [Int.add_comm, wrap_al, Int.add_comm]
theorem wrap_sl (a b : Int) : IntKind.wrap IntKind.i64 (IntKind.wrap IntKind.i64 a - b) = IntKind.wrap IntKind.i64 (a - b) := by
  rw [Int.sub_eq_add_neg, wrap_al, ← Int.sub_eq_add_neg]
theorem wrap_sr (a b : Int) : IntKind.wrap IntKind.i64 (a - IntKind.wrap IntKind.i64 b) = IntKind.wrap IntKind.i64 (a - b) := by
  obtain ⟨k, e⟩ := wrap_ex b
  rw [e, show a - (b + 18446744073709551616 * k) = a - b + 18446744073709551616 * (-k) by omega, wrap_shift]
theorem wrap_ml (a b : Int) : IntKind.wrap IntKind.i64 (IntKind.wrap IntKind.i64 a * b) = IntKind.wrap IntKind.i64 (a * b) := by
  obtain ⟨k, e⟩ := wrap_ex a
  rw [e, show (a + 18446744073709551616 * k) * b = a * b + 18446744073709551616 * (k * b) by rw [Int.add_mul, Int.mul_assoc], wrap_shift]
theorem wrap_mr (a b : Int) : IntKind.wrap IntKind.i64 (a * IntKind.wrap IntKind.i64 b) = IntKind.wrap IntKind.i64 (a * b) := by
  rw [Int.mul_comm, wrap_ml, Int.mul_comm]
theorem wrap_w (a : Int) : IntKind.wrap IntKind.i64 (IntKind.wrap IntKind.i64 a) = IntKind.wrap IntKind.i64 a := by
  have := wrap_al a 0
  simpa using this
theorem wrap_fit {a : Int} (h : -9223372036854775808 ≤ a ∧ a < 9223372036854775808) : IntKind.wrap IntKind.i64 a = a := wrap_i64_of h.1 h.2

def wI (n a : Int) : Bool := decide (-n ≤ a) && decide (a ≤ n)
theorem wI_iff {n a : Int} : wI n a = true ↔ -n ≤ a ∧ a ≤ n := by simp [wI]
def w4 (n a b c d : Int) : Bool := wI n a && (wI n b && (wI n c && wI n d))
theorem w4_iff {n a b c d : Int} : w4 n a b c d = true ↔ (-n ≤ a ∧ a ≤ n) ∧ (-n ≤ b ∧ b ≤ n) ∧ (-n ≤ c ∧ c ≤ n) ∧ -n ≤ d ∧ d ≤ n := by simp [w4, wI]
def cI (n c : Int) : Int := min (max c (-n)) n
theorem cI_beq (n c : Int) (hn : 0 ≤ n) : (c == cI n c) = wI n c := by
  unfold cI wI
  rw [Bool.eq_iff_iff]
  simp only [beq_iff_eq, Bool.and_eq_true, decide_eq_true_eq]
  omega

def pc0 (a b c d e f g h : Int) : Int := a * e - (b * h + c * g + d * f) - d * h
def pc1 (a b c d e f g h : Int) : Int := a * f + b * e - (c * h + d * g)
def pc2 (a b c d e f g h : Int) : Int := a * g + b * f + c * e + (b * h + c * g + d * f)
def pc3 (a b c d e f g h : Int) : Int := a * h + b * g + c * f + d * e + (c * h + d * g)
theorem mul_bd {x y : Int} (m n : Nat) (hx : -(m : Int) ≤ x ∧ x ≤ m) (hy : -(n : Int) ≤ y ∧ y ≤ n) : -((m * n : Nat) : Int) ≤ x * y ∧ x * y ≤ ((m * n : Nat) : Int) := by
  have : (x * y).natAbs ≤ m * n := by rw [Int.natAbs_mul]; exact Nat.mul_le_mul (by omega) (by omega)
  omega
/-- products of bounded numbers -/
theorem pc_bd {a b c d e f g h : Int} (m n : Nat) (hx : (-(m : Int) ≤ a ∧ a ≤ m) ∧ (-(m : Int) ≤ b ∧ b ≤ m) ∧ (-(m : Int) ≤ c ∧ c ≤ m) ∧ -(m : Int) ≤ d ∧ d ≤ m)
    (hy : (-(n : Int) ≤ e ∧ e ≤ n) ∧ (-(n : Int) ≤ f ∧ f ≤ n) ∧ (-(n : Int) ≤ g ∧ g ≤ n) ∧ -(n : Int) ≤ h ∧ h ≤ n) :
    (-(6 * (m * n : Nat) : Int) ≤ pc0 a b c d e f g h ∧ pc0 a b c d e f g h ≤ 6 * (m * n : Nat)) ∧ (-(6 * (m * n : Nat) : Int) ≤ pc1 a b c d e f g h ∧ pc1 a b c d e f g h ≤ 6 * (m * n : Nat)) ∧
    (-(6 * (m * n : Nat) : Int) ≤ pc2 a b c d e f g h ∧ pc2 a b c d e f g h ≤ 6 * (m * n : Nat)) ∧ -(6 * (m * n : Nat) : Int) ≤ pc3 a b c d e f g h ∧ pc3 a b c d e f g h ≤ 6 * (m * n : Nat) := by
  obtain ⟨ha, hb, hc, hd⟩ := hx
  obtain ⟨he, hf, hg, hh⟩ := hy
  have h1 := mul_bd m n ha he
  have h2 := mul_bd m n ha hf
  have h3 := mul_bd m n ha hg
  have h4 := mul_bd m n ha hh
  have h5 := mul_bd m n hb he
  have h6 := mul_bd m n hb hf
  have h7 := mul_bd m n hb hg
  have h8 := mul_bd m n hb hh
  have i1 := mul_bd m n hc he
  have i2 := mul_bd m n hc hf
  have i3 := mul_bd m n hc hg
  have i4 := mul_bd m n hc hh
  have i5 := mul_bd m n hd he
  have i6 := mul_bd m n hd hf
  have i7 := mul_bd m n hd hg
  have i8 := mul_bd m n hd hh
  unfold pc0 pc1 pc2 pc3
  generalize a * e = x1 at *
  generalize a * f = x2 at *
  generalize a * g = x3 at *
  generalize a * h = x4 at *
  generalize b * e = x5 at *
  generalize b * f = x6 at *
  generalize b * g = x7 at *
  generalize b * h = x8 at *
  generalize c * e = y1 at *
  generalize c * f = y2 at *
  generalize c * g = y3 at *
  generalize c * h = y4 at *
  generalize d * e = y5 at *
  generalize d * f = y6 at *
  generalize d * g = y7 at *
  generalize d * h = y8 at *
  generalize m * n = q at *
  refine ⟨?_, ?_, ?_, ?_⟩ <;> constructor <;> omega
/-- the powers of z -/
def rt : Nat → Int × Int × Int × Int
  | 0 => (1, 0, 0, 0)
  | 1 => (0, 1, 0, 0)
  | 2 => (0, 0, 1, 0)
  | 3 => (0, 0, 0, 1)
  | 4 => (-1, 0, 1, 0)
  | 5 => (0, -1, 0, 1)
  | 6 => (-1, 0, 0, 0)
  | 7 => (0, -1, 0, 0)
  | 8 => (0, 0, -1, 0)
  | 9 => (0, 0, 0, -1)
  | 10 => (1, 0, -1, 0)
  | _ => (0, 1, 0, -1)
def ri (k : Int) : Nat := (k % 12).toNat
theorem ri_lt (k : Int) : ri k < 12 := by unfold ri; omega
theorem lt12 {i : Nat} (h : i < 12) : i = 0 ∨ i = 1 ∨ i = 2 ∨ i = 3 ∨ i = 4 ∨ i = 5 ∨ i = 6 ∨ i = 7 ∨ i = 8 ∨ i = 9 ∨ i = 10 ∨ i = 11 := by omega
def r0 (k : Int) : Int := (rt (ri k)).1
def r1 (k : Int) : Int := (rt (ri k)).2.1
def r2 (k : Int) : Int := (rt (ri k)).2.2.1
def r3 (k : Int) : Int := (rt (ri k)).2.2.2
end Go.Proofs.YtbjjlngchidikaaDoor
