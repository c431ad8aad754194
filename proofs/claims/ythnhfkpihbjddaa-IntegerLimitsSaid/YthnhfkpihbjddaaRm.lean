/- Digits of 32 bits: values, canonical digits. No program. -/
import Derived.Test.YthnhfkpihbjddaaRa
namespace Go.Proofs.Ythnhfkpihbjddaa
set_option linter.unusedVariables false
set_option linter.unusedSimpArgs false

def nv : List Nat → Nat
  | [] => 0
  | x :: xs => x + 4294967296 * nv xs
def Dig (xs : List Nat) : Prop := ∀ x ∈ xs, x < 4294967296
def dgn : Nat → Nat → List Nat
  | 0, _ => []
  | k + 1, v => (v % 4294967296) :: dgn k (v / 4294967296)
theorem Dig.nil : Dig [] := by simp [Dig]
theorem Dig.cons {x : Nat} {xs : List Nat} : Dig (x :: xs) ↔ x < 4294967296 ∧ Dig xs := by simp [Dig]
theorem Dig.app {xs ys : List Nat} : Dig (xs ++ ys) ↔ Dig xs ∧ Dig ys := by
  simp only [Dig, List.mem_append]
  exact ⟨fun h => ⟨fun x hx => h x (.inl hx), fun x hx => h x (.inr hx)⟩, fun h x hx => hx.elim (h.1 x) (h.2 x)⟩
theorem Dig.take {xs : List Nat} (h : Dig xs) (n : Nat) : Dig (xs.take n) := fun x hx => h x (List.mem_of_mem_take hx)
theorem Dig.drop {xs : List Nat} (h : Dig xs) (n : Nat) : Dig (xs.drop n) := fun x hx => h x (List.mem_of_mem_drop hx)
theorem Dig.get {xs : List Nat} (h : Dig xs) (i : Nat) : xs.getD i 0 < 4294967296 := by
  rw [List.getD_eq_getElem?_getD]
  cases hx : xs[i]? with
  | none => simp
  | some x => exact h x (List.mem_of_getElem? hx)
theorem dgn_length : ∀ k v, (dgn k v).length = k
  | 0, _ => rfl
  | k + 1, v => by simp [dgn, dgn_length k]
theorem dgn_dig : ∀ k v, Dig (dgn k v)
  | 0, _ => Dig.nil
  | k + 1, v => Dig.cons.2 ⟨Nat.mod_lt _ (by decide), dgn_dig k _⟩
theorem nv_append : ∀ xs ys : List Nat, nv (xs ++ ys) = nv xs + 4294967296 ^ xs.length * nv ys
  | [], ys => by simp [nv]
  | x :: xs, ys => by
    have := nv_append xs ys
    simp only [List.cons_append, nv, this, List.length_cons, Nat.pow_succ]
    grind
theorem nv_lt : ∀ {xs : List Nat}, Dig xs → nv xs < 4294967296 ^ xs.length
  | [], _ => by simp [nv]
  | x :: xs, h => by
    obtain ⟨h1, h2⟩ := Dig.cons.1 h
    have := nv_lt h2
    simp only [nv, List.length_cons, Nat.pow_succ]
    omega
theorem pow_pos32 (k : Nat) : 0 < 4294967296 ^ k := Nat.pow_pos (by decide)
theorem nv_dgn : ∀ k v, nv (dgn k v) = v % 4294967296 ^ k
  | 0, v => by simp [dgn, nv, Nat.mod_one]
  | k + 1, v => by
    simp only [dgn, nv, nv_dgn k]
    rw [Nat.pow_succ, Nat.mul_comm (4294967296 ^ k), Nat.mod_mul]
theorem dgn_nv : ∀ {xs : List Nat}, Dig xs → dgn xs.length (nv xs) = xs
  | [], _ => rfl
  | x :: xs, h => by
    obtain ⟨h1, h2⟩ := Dig.cons.1 h
    have := dgn_nv h2
    simp only [List.length_cons, dgn, nv]
    have e1 : (x + 4294967296 * nv xs) % 4294967296 = x := by omega
    have e2 : (x + 4294967296 * nv xs) / 4294967296 = nv xs := by omega
    rw [e1, e2, this]
theorem dgn_succ : ∀ k v, dgn (k + 1) v = dgn k v ++ [v / 4294967296 ^ k % 4294967296]
  | 0, v => by simp [dgn]
  | k + 1, v => by
    have := dgn_succ k (v / 4294967296)
    rw [dgn, this]
    simp only [dgn, List.cons_append]
    rw [Nat.div_div_eq_div_mul, Nat.pow_succ, Nat.mul_comm 4294967296]
/-- the digits without leading zeros -/
def dg (v : Nat) : List Nat := if h : v = 0 then [] else (v % 4294967296) :: dg (v / 4294967296)
termination_by v
decreasing_by omega
theorem dg_zero : dg 0 = [] := by unfold dg; simp
theorem dg_pos {v : Nat} (h : v ≠ 0) : dg v = (v % 4294967296) :: dg (v / 4294967296) := by
  rw [dg]; simp [h]
theorem nv_dg (v : Nat) : nv (dg v) = v := by
  induction v using Nat.strongRecOn with
  | _ v ih =>
    by_cases h : v = 0
    · subst h; rw [dg_zero]; rfl
    · rw [dg_pos h, nv, ih (v / 4294967296) (by omega)]; omega
theorem dg_dig (v : Nat) : Dig (dg v) := by
  induction v using Nat.strongRecOn with
  | _ v ih =>
    by_cases h : v = 0
    · subst h; rw [dg_zero]; exact Dig.nil
    · rw [dg_pos h]; exact Dig.cons.2 ⟨Nat.mod_lt _ (by decide), ih (v / 4294967296) (by omega)⟩
theorem tn_dg (v : Nat) : tn (dg v) (dg v).length = (dg v).length := by
  have last : ∀ v, v ≠ 0 → (dg v).getD ((dg v).length - 1) 0 ≠ 0 := by
    intro v
    induction v using Nat.strongRecOn with
    | _ v ih =>
      intro h
      rw [dg_pos h]
      by_cases h2 : v / 4294967296 = 0
      · rw [h2, dg_zero]; simp; omega
      · have := ih (v / 4294967296) (by omega) h2
        have hl : 0 < (dg (v / 4294967296)).length := by rw [dg_pos h2]; simp
        have e : ((v % 4294967296) :: dg (v / 4294967296)).length - 1 = ((dg (v / 4294967296)).length - 1) + 1 := by simp; omega
        rw [e, List.getD_cons_succ]
        exact this
  by_cases h : v = 0
  · subst h; rw [dg_zero]; rfl
  · have hl := last v h
    have : 0 < (dg v).length := by rw [dg_pos h]; simp
    obtain ⟨n, hn⟩ : ∃ n, (dg v).length = n + 1 := ⟨(dg v).length - 1, by omega⟩
    rw [hn] at hl ⊢
    simp only [Nat.add_sub_cancel] at hl
    simp only [tn, if_neg hl]
theorem tn_append_zero (xs : List Nat) (k : Nat) : ∀ n, n ≤ xs.length → tn (xs ++ List.replicate k 0) n = tn xs n
  | 0, _ => rfl
  | n + 1, h => by
    have := tn_append_zero xs k n (by omega)
    simp only [tn, this]
    have e : (xs ++ List.replicate k 0).getD n 0 = xs.getD n 0 := by
      simp [List.getD_eq_getElem?_getD, List.getElem?_append_left (show n < xs.length by omega)]
    rw [e]
theorem tn_zeros (xs : List Nat) (k : Nat) : ∀ j, j ≤ k → tn (xs ++ List.replicate k 0) (xs.length + j) = tn xs xs.length
  | 0, _ => tn_append_zero xs k xs.length (Nat.le_refl _)
  | j + 1, h => by
    have := tn_zeros xs k j (by omega)
    rw [← Nat.add_assoc, tn]
    have e : (xs ++ List.replicate k 0).getD (xs.length + j) 0 = 0 := by
      rw [List.getD_eq_getElem?_getD, List.getElem?_append_right (by omega)]
      simp only [Nat.add_sub_cancel_left, List.getElem?_replicate]
      split <;> rfl
    rw [if_pos e, this]
theorem dgn_dg : ∀ (v k : Nat), v < 4294967296 ^ k → ∃ j, dgn k v = dg v ++ List.replicate j 0
  | v, 0, h => by
    have : v = 0 := by simpa using h
    subst this
    exact ⟨0, by simp [dgn, dg_zero]⟩
  | v, k + 1, h => by
    by_cases h0 : v = 0
    · subst h0
      refine ⟨k + 1, ?_⟩
      have z : ∀ k, dgn k 0 = List.replicate k 0 := by
        intro k
        induction k with
        | zero => rfl
        | succ k ih => simp [dgn, ih, List.replicate_succ]
      rw [dg_zero, z]; simp
    · have hlt : v / 4294967296 < 4294967296 ^ k := by
        rw [Nat.pow_succ] at h
        exact Nat.div_lt_of_lt_mul (by rw [Nat.mul_comm]; exact h)
      obtain ⟨j, hj⟩ := dgn_dg (v / 4294967296) k hlt
      exact ⟨j, by rw [dgn, hj, dg_pos h0]; rfl⟩
theorem trimL_dgn {v k : Nat} (h : v < 4294967296 ^ k) : trimL (dgn k v) = dg v := by
  obtain ⟨j, hj⟩ := dgn_dg v k h
  unfold trimL
  rw [hj]
  have := tn_zeros (dg v) j j (Nat.le_refl _)
  rw [List.length_append, List.length_replicate, this, tn_dg]
  simp
theorem trimL_dig {xs : List Nat} (h : Dig xs) : trimL xs = dg (nv xs) := by
  have := trimL_dgn (nv_lt h)
  rwa [dgn_nv h] at this
theorem dg_length_le {v k : Nat} (h : v < 4294967296 ^ k) : (dg v).length ≤ k := by
  obtain ⟨j, hj⟩ := dgn_dg v k h
  have := congrArg List.length hj
  rw [dgn_length, List.length_append] at this
  omega
theorem lt_of_dg_length {v k : Nat} (h : (dg v).length ≤ k) : v < 4294967296 ^ k := by
  have := nv_lt (dg_dig v)
  rw [nv_dg] at this
  exact Nat.lt_of_lt_of_le this (Nat.pow_le_pow_right (by decide) h)
theorem nv_drop_succ (xs : List Nat) (i : Nat) : nv (xs.drop i) = xs.getD i 0 + 4294967296 * nv (xs.drop (i + 1)) := by
  by_cases h : i < xs.length
  · rw [List.drop_eq_getElem_cons h, nv]
    simp [List.getD_eq_getElem?_getD, List.getElem?_eq_getElem h]
  · rw [List.drop_eq_nil_of_le (by omega), List.drop_eq_nil_of_le (by omega)]
    simp [nv, List.getD_eq_getElem?_getD, List.getElem?_eq_none (show xs.length ≤ i by omega)]
theorem nv_drop_ge {xs : List Nat} {i : Nat} (h : xs.length ≤ i) : nv (xs.drop i) = 0 := by
  rw [List.drop_eq_nil_of_le h]; rfl
theorem div_pow_succ (S i : Nat) : S / 4294967296 ^ (i + 1) = S / 4294967296 ^ i / 4294967296 := by
  rw [Nat.pow_succ, Nat.div_div_eq_div_mul]
/-- a list that is canonical -/
def Canon (xs : List Nat) : Prop := Dig xs ∧ (xs = [] ∨ xs.getD (xs.length - 1) 0 ≠ 0)
theorem canon_dg {xs : List Nat} (h : Canon xs) : dg (nv xs) = xs := by
  rw [← trimL_dig h.1]
  unfold trimL
  rcases h.2 with h2 | h2
  · subst h2; rfl
  · cases hn : xs.length with
    | zero => have : xs = [] := List.eq_nil_of_length_eq_zero hn; subst this; rfl
    | succ n =>
      rw [hn] at h2
      simp only [Nat.add_sub_cancel] at h2
      simp only [tn, if_neg h2]
      rw [← hn, List.take_length]
end Go.Proofs.Ythnhfkpihbjddaa
