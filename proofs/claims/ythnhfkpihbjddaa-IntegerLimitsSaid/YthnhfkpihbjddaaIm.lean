/- Bits of 32-bit numbers; the borrow of a difference. No program. -/
import Derived.Laws.Bits64b
namespace Go.Proofs.Ythnhfkpihbjddaa
open Go
set_option linter.unusedVariables false
set_option linter.unusedSimpArgs false
theorem bits_u32_nat (op : BinOp) (f : BitVec 32 → BitVec 32 → BitVec 32) (g : Nat → Nat → Nat) (hop : ∀ a b : Int, bits op .u32 a b = IntKind.u32.wrap ((f (BitVec.ofInt 32 a) (BitVec.ofInt 32 b)).toNat : Int)) (hf : ∀ x y, (f x y).toNat = g x.toNat y.toNat) (a b : Nat) (ha : a < 4294967296) (hb : b < 4294967296) :
    bits op .u32 (a : Int) (b : Int) = ((g a b : Nat) : Int) := by
  have h1 : (BitVec.ofInt 32 (a : Int)).toNat = a := by
    rw [BitVec.ofInt_natCast, BitVec.toNat_ofNat]; exact Nat.mod_eq_of_lt (by omega)
  have h2 : (BitVec.ofInt 32 (b : Int)).toNat = b := by
    rw [BitVec.ofInt_natCast, BitVec.toNat_ofNat]; exact Nat.mod_eq_of_lt (by omega)
  have h3 := hf (BitVec.ofInt 32 (a : Int)) (BitVec.ofInt 32 (b : Int))
  rw [h1, h2] at h3
  have h4 := (f (BitVec.ofInt 32 (a : Int)) (BitVec.ofInt 32 (b : Int))).isLt
  rw [hop, h3]
  rw [h3] at h4
  have : ∀ n : Int, IntKind.u32.wrap n = n % 4294967296 := fun n => by simp [IntKind.wrap, IntKind.bits, IntKind.signed]
  rw [this]
  omega
theorem bits_and_u32_nat (a b : Nat) (ha : a < 4294967296) (hb : b < 4294967296) : bits .and .u32 (a : Int) (b : Int) = ((a &&& b : Nat) : Int) :=
  bits_u32_nat .and (· &&& ·) (· &&& ·) (fun _ _ => rfl) (fun _ _ => BitVec.toNat_and ..) a b ha hb
theorem bits_or_u32_nat (a b : Nat) (ha : a < 4294967296) (hb : b < 4294967296) : bits .or .u32 (a : Int) (b : Int) = ((a ||| b : Nat) : Int) :=
  bits_u32_nat .or (· ||| ·) (· ||| ·) (fun _ _ => rfl) (fun _ _ => BitVec.toNat_or ..) a b ha hb
theorem bits_xor_u32_nat (a b : Nat) (ha : a < 4294967296) (hb : b < 4294967296) : bits .xor .u32 (a : Int) (b : Int) = ((a ^^^ b : Nat) : Int) :=
  bits_u32_nat .xor (· ^^^ ·) (· ^^^ ·) (fun _ _ => rfl) (fun _ _ => BitVec.toNat_xor ..) a b ha hb
theorem top32 (a : Nat) (h : a < 4294967296) : a.testBit 31 = decide (2147483648 ≤ a) := by
  rw [Nat.testBit_eq_decide_div_mod_eq, decide_eq_decide]; omega
theorem borrow32 (x y b d : Nat) (hx : x < 4294967296) (hy : y < 4294967296) (hb : b ≤ 1) (hd : d = (x + 8589934592 - y - b) % 4294967296) :
    (((4294967295 ^^^ x) &&& y) ||| ((4294967295 ^^^ (x ^^^ y)) &&& d)) / 2147483648 = if x < y + b then 1 else 0 := by
  have n1 : (4294967295 ^^^ x) < 2 ^ 32 := Nat.xor_lt_two_pow (by omega) (by omega)
  have n2 : (x ^^^ y) < 2 ^ 32 := Nat.xor_lt_two_pow (by omega) (by omega)
  have n3 : (4294967295 ^^^ (x ^^^ y)) < 2 ^ 32 := Nat.xor_lt_two_pow (by omega) n2
  have hlt : (((4294967295 ^^^ x) &&& y) ||| ((4294967295 ^^^ (x ^^^ y)) &&& d)) < 2 ^ 32 := Nat.or_lt_two_pow (Nat.and_lt_two_pow _ (by omega)) (Nat.and_lt_two_pow _ (by omega))
  have ht := top32 _ (show _ < 4294967296 from hlt)
  rw [Nat.testBit_or, Nat.testBit_and, Nat.testBit_and, Nat.testBit_xor, Nat.testBit_xor, Nat.testBit_xor, top32 x hx, top32 y hy, top32 d (by omega)] at ht
  generalize (((4294967295 ^^^ x) &&& y) ||| ((4294967295 ^^^ (x ^^^ y)) &&& d)) = r at *
  have e : r / 2147483648 = if 2147483648 ≤ r then 1 else 0 := by split <;> omega
  rw [e]
  have k : decide (2147483648 ≤ r) = decide (x < y + b) := by
    rw [← ht]
    rw [show Nat.testBit 4294967295 31 = true from rfl]
    by_cases h1 : 2147483648 ≤ x <;> by_cases h2 : 2147483648 ≤ y <;> simp [h1, h2] <;> omega
  rw [decide_eq_decide] at k
  by_cases h : x < y + b
  · rw [if_pos h, if_pos (k.2 h)]
  · rw [if_neg h, if_neg (fun z => h (k.1 z))]
end Go.Proofs.Ythnhfkpihbjddaa
