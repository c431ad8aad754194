/- A multiple of a list of digits, added in place. No program. -/
import Derived.Test.YthnhfkpihbjddaaRd
namespace Go.Proofs.Ythnhfkpihbjddaa
open Go.VD
set_option linter.unusedVariables false
set_option linter.unusedSimpArgs false

def wT (off : Nat) (zs ys : List Nat) (k i : Nat) : Nat := nv ((zs.drop off).take i) + k * nv (ys.take i)
def addT (off : Nat) (zs ys : List Nat) (k i : Nat) : List Nat := zs.take off ++ (dgn i (wT off zs ys k i) ++ zs.drop (off + i))
def carT (off : Nat) (zs ys : List Nat) (k i : Nat) : Nat := wT off zs ys k i / 4294967296 ^ i
theorem dgn_mod : ∀ (i v x : Nat), dgn i (v + 4294967296 ^ i * x) = dgn i v
  | 0, v, x => rfl
  | i + 1, v, x => by
    have e : v + 4294967296 ^ (i + 1) * x = v + 4294967296 * (4294967296 ^ i * x) := by rw [Nat.pow_succ]; grind
    have e1 : (v + 4294967296 * (4294967296 ^ i * x)) % 4294967296 = v % 4294967296 := by omega
    have e2 : (v + 4294967296 * (4294967296 ^ i * x)) / 4294967296 = v / 4294967296 + 4294967296 ^ i * x := by omega
    rw [dgn, dgn, e, e1, e2, dgn_mod i]
theorem addT_length {off : Nat} {zs ys : List Nat} {k i : Nat} (h : off + i ≤ zs.length) : (addT off zs ys k i).length = zs.length := by
  simp [addT, dgn_length]; omega
theorem getD_drop (zs : List Nat) (off i : Nat) : (zs.drop off).getD i 0 = zs.getD (off + i) 0 := by
  simp [List.getD_eq_getElem?_getD, List.getElem?_drop]
theorem wT_succ {off : Nat} {zs ys : List Nat} {k i : Nat} (h1 : off + i < zs.length) (h2 : i < ys.length) : wT off zs ys k (i + 1) = wT off zs ys k i + 4294967296 ^ i * (zs.getD (off + i) 0 + k * ys.getD i 0) := by
  unfold wT
  rw [nv_take_succ _ i (by simp; omega), nv_take_succ _ i h2, getD_drop]
  generalize 4294967296 ^ i = P
  grind
theorem wT_lt {off : Nat} {zs ys : List Nat} {k i : Nat} (hz : Dig zs) (hy : Dig ys) (hk : k < 4294967296) (h1 : off + i ≤ zs.length) (h2 : i ≤ ys.length) : wT off zs ys k i < 4294967296 * 4294967296 ^ i := by
  have a := nv_lt ((hz.drop off).take i)
  have b := nv_lt (hy.take i)
  have la : ((zs.drop off).take i).length = i := by simp; omega
  have lb : (ys.take i).length = i := by simp; omega
  rw [la] at a
  rw [lb] at b
  unfold wT
  have c : k * nv (ys.take i) ≤ 4294967295 * (4294967296 ^ i - 1) := Nat.mul_le_mul (by omega) (by omega)
  generalize 4294967296 ^ i = P at *
  omega
theorem carT_lt {off : Nat} {zs ys : List Nat} {k i : Nat} (hz : Dig zs) (hy : Dig ys) (hk : k < 4294967296) (h1 : off + i ≤ zs.length) (h2 : i ≤ ys.length) : carT off zs ys k i < 4294967296 := by
  unfold carT
  rw [Nat.div_lt_iff_lt_mul (pow_pos32 i)]
  exact wT_lt hz hy hk h1 h2
theorem stepT {off : Nat} {zs ys : List Nat} {k i : Nat} (h1 : off + i < zs.length) (h2 : i < ys.length) : wT off zs ys k (i + 1) / 4294967296 ^ i = carT off zs ys k i + (zs.getD (off + i) 0 + k * ys.getD i 0) := by
  rw [wT_succ h1 h2, Nat.add_mul_div_left _ _ (pow_pos32 i)]; rfl
theorem carT_succ {off : Nat} {zs ys : List Nat} {k i : Nat} (h1 : off + i < zs.length) (h2 : i < ys.length) : carT off zs ys k (i + 1) = (ys.getD i 0 * k + zs.getD (off + i) 0 + carT off zs ys k i) / 4294967296 := by
  have := stepT (off := off) (zs := zs) (ys := ys) (k := k) h1 h2
  unfold carT at *
  rw [div_pow_succ, this, Nat.mul_comm (ys.getD i 0)]
  congr 1; omega
theorem addT_get {off : Nat} {zs ys : List Nat} {k i : Nat} (h1 : off + i < zs.length) : (addT off zs ys k i).getD (off + i) 0 = zs.getD (off + i) 0 := by
  unfold addT
  have l1 : (zs.take off).length = off := by simp; omega
  rw [List.getD_eq_getElem?_getD, List.getElem?_append_right (by omega), l1, show off + i - off = i by omega, List.getElem?_append_right (by rw [dgn_length]; exact Nat.le_refl _), dgn_length, Nat.sub_self, List.getElem?_drop, Nat.add_zero, ← List.getD_eq_getElem?_getD]
theorem addT_set {off : Nat} {zs ys : List Nat} {k i : Nat} (h1 : off + i < zs.length) (h2 : i < ys.length) : (addT off zs ys k i).set (off + i) ((ys.getD i 0 * k + zs.getD (off + i) 0 + carT off zs ys k i) % 4294967296) = addT off zs ys k (i + 1) := by
  have l1 : (zs.take off).length = off := by simp; omega
  have st := stepT (off := off) (zs := zs) (ys := ys) (k := k) h1 h2
  unfold addT
  rw [dgn_succ, st, wT_succ h1 h2, dgn_mod]
  rw [List.set_append_right _ _ (by omega), l1, show off + i - off = i by omega, List.set_append_right _ _ (by rw [dgn_length]; exact Nat.le_refl _), dgn_length, Nat.sub_self, List.drop_eq_getElem_cons h1]
  have e : ys.getD i 0 * k + zs.getD (off + i) 0 + carT off zs ys k i = carT off zs ys k i + (zs.getD (off + i) 0 + k * ys.getD i 0) := by rw [Nat.mul_comm (ys.getD i 0)]; omega
  rw [e]
  simp [Nat.add_assoc]
theorem addT_drop {off : Nat} {zs ys : List Nat} {k i : Nat} (h : off + i ≤ zs.length) (j : Nat) : (addT off zs ys k i).drop (off + i + j) = zs.drop (off + i + j) := by
  have l1 : (zs.take off).length = off := by simp; omega
  unfold addT
  rw [← List.append_assoc, List.drop_append]
  rw [List.drop_eq_nil_of_le (by rw [List.length_append, l1, dgn_length]; omega), List.length_append, l1, dgn_length, show off + i + j - (off + i) = j by omega, List.drop_drop]
  rfl
theorem addT_dig {off : Nat} {zs ys : List Nat} {k i : Nat} (hz : Dig zs) : Dig (addT off zs ys k i) := by
  unfold addT
  exact Dig.app.2 ⟨hz.take _, Dig.app.2 ⟨dgn_dig _ _, hz.drop _⟩⟩
theorem addT_nil (off : Nat) (zs ys : List Nat) (k : Nat) : addT off zs ys k 0 = zs ∧ carT off zs ys k 0 = 0 := by
  simp [addT, carT, wT, dgn, nv]
/-- the whole: behind it a digit that was 0 takes the carry -/
theorem addT_value {off : Nat} {zs ys : List Nat} {k : Nat} (hz : Dig zs) (hl : off + ys.length < zs.length) (h0 : nv (zs.drop (off + ys.length)) = 0) :
    nv ((addT off zs ys k ys.length).set (off + ys.length) (carT off zs ys k ys.length)) = nv zs + k * 4294967296 ^ off * nv ys := by
  have h1 := nv_put (addT off zs ys k ys.length) (off + ys.length) (carT off zs ys k ys.length) (by rw [addT_length (by omega)]; omega)
  rw [addT_get hl] at h1
  have hd := nv_drop_succ zs (off + ys.length)
  rw [h0] at hd
  have e0 : zs.getD (off + ys.length) 0 = 0 := by omega
  rw [e0, Nat.zero_mul, Nat.add_zero] at h1
  rw [h1]
  have l1 : (zs.take off).length = off := by simp; omega
  have hA : nv (addT off zs ys k ys.length) = nv (zs.take off) + 4294967296 ^ off * (wT off zs ys k ys.length % 4294967296 ^ ys.length) := by
    unfold addT
    rw [nv_append, nv_append, nv_dgn, h0, l1]; simp
  have hz2 : nv zs = nv (zs.take off) + 4294967296 ^ off * nv ((zs.drop off).take ys.length) := by
    have e1 := nv_append (zs.take off) (zs.drop off)
    rw [List.take_append_drop, l1] at e1
    have e2 := nv_append ((zs.drop off).take ys.length) ((zs.drop off).drop ys.length)
    rw [List.take_append_drop, List.drop_drop, h0] at e2
    rw [e1, e2]; simp
  have hw : wT off zs ys k ys.length = nv ((zs.drop off).take ys.length) + k * nv ys := by unfold wT; rw [List.take_length]
  rw [hA, hz2]
  unfold carT
  have hdm := Nat.mod_add_div (wT off zs ys k ys.length) (4294967296 ^ ys.length)
  rw [Nat.pow_add]
  generalize wT off zs ys k ys.length / 4294967296 ^ ys.length = q at *
  generalize wT off zs ys k ys.length % 4294967296 ^ ys.length = r at *
  rw [hw] at hdm
  generalize nv ((zs.drop off).take ys.length) = a at *
  generalize nv ys = y at *
  generalize nv (zs.take off) = u at *
  generalize 4294967296 ^ ys.length = Q at *
  generalize 4294967296 ^ off = A at *
  have h2 : A * (r + Q * q) = A * (a + k * y) := by rw [hdm]
  grind
end Go.Proofs.Ythnhfkpihbjddaa
