/- Division by one digit in place; decimal digits; reversal in place. No program. -/
import Derived.Test.YtgilijgbljgekaaIf
import Derived.Test.YtgilijgbljgekaaEg
namespace Go.Proofs.Ytgilijgbljgekaa
open Go.VD
set_option linter.unusedVariables false
set_option linter.unusedSimpArgs false

theorem nv_drop_div {X : List Nat} (h : Dig X) {k : Nat} (hk : k ≤ X.length) : nv (X.drop k) = nv X / 4294967296 ^ k := by
  have e := nv_append (X.take k) (X.drop k)
  rw [List.take_append_drop] at e
  have l : (X.take k).length = k := by simp; omega
  have b := nv_lt (h.take k)
  rw [l] at e b
  rw [e, Nat.add_mul_div_left _ _ (pow_pos32 k), Nat.div_eq_of_lt b, Nat.zero_add]
theorem dgn_getD : ∀ n v k, k < n → (dgn n v).getD k 0 = v / 4294967296 ^ k % 4294967296
  | 0, v, k, h => by omega
  | n + 1, v, 0, h => by simp [dgn]
  | n + 1, v, k + 1, h => by
    have := dgn_getD n (v / 4294967296) k (by omega)
    rw [dgn, List.getD_cons_succ, this, Nat.div_div_eq_div_mul, Nat.pow_succ, Nat.mul_comm]
def divT (zs : List Nat) (n d k : Nat) : List Nat := zs.take k ++ ((dgn n (nv (zs.take n) / d)).drop k ++ zs.drop n)
def remT (zs : List Nat) (n d k : Nat) : Nat := nv ((zs.take n).drop k) % d
theorem divT_length {zs : List Nat} {n d k : Nat} (h : n ≤ zs.length) (hk : k ≤ n) : (divT zs n d k).length = zs.length := by
  simp [divT, dgn_length]; omega
theorem take_getD {zs : List Nat} {n k : Nat} (hk : k < n) : (zs.take n).getD k 0 = zs.getD k 0 := by
  simp [List.getD_eq_getElem?_getD, List.getElem?_take, hk]
theorem divT_get {zs : List Nat} {n d k : Nat} (h : n ≤ zs.length) (hk : k < n) : (divT zs n d (k + 1)).getD k 0 = zs.getD k 0 := by
  have l : (zs.take (k + 1)).length = k + 1 := by simp; omega
  rw [divT, List.getD_eq_getElem?_getD, List.getElem?_append_left (by omega), ← List.getD_eq_getElem?_getD, take_getD (by omega)]
theorem rem_step {zs : List Nat} {n d k : Nat} (hk : k < n) : nv ((zs.take n).drop k) = zs.getD k 0 + 4294967296 * nv ((zs.take n).drop (k + 1)) := by
  rw [nv_drop_succ, take_getD hk]
theorem remT_lt {zs : List Nat} {n d k : Nat} (hd : 0 < d) : remT zs n d k < d := Nat.mod_lt _ hd
theorem remT_succ {zs : List Nat} {n d k : Nat} (hk : k < n) : (remT zs n d (k + 1) * 4294967296 + zs.getD k 0) % d = remT zs n d k := by
  unfold remT
  rw [rem_step (d := d) hk]
  generalize nv ((zs.take n).drop (k + 1)) = w
  rw [Nat.add_comm (zs.getD k 0), Nat.mul_comm 4294967296 w, Nat.add_mod, Nat.mul_mod, Nat.mod_mod, ← Nat.mul_mod, ← Nat.add_mod]
theorem quo_lt {zs : List Nat} {n d k : Nat} (hz : Dig zs) (hd : 0 < d) : remT zs n d (k + 1) * 4294967296 + zs.getD k 0 < d * 4294967296 := by
  have h1 := remT_lt (zs := zs) (n := n) (k := k + 1) hd
  have h2 := hz.get k
  have h3 : (remT zs n d (k + 1) + 1) * 4294967296 ≤ d * 4294967296 := Nat.mul_le_mul_right _ h1
  omega
theorem quo_digit {zs : List Nat} {n d k : Nat} (hz : Dig zs) (hn : n ≤ zs.length) (hd : 0 < d) (hk : k < n) : (remT zs n d (k + 1) * 4294967296 + zs.getD k 0) / d = nv (zs.take n) / d / 4294967296 ^ k % 4294967296 := by
  have hl : (zs.take n).length = n := by simp; omega
  have e1 : nv (zs.take n) / d / 4294967296 ^ k = nv ((zs.take n).drop k) / d := by
    rw [nv_drop_div (hz.take n) (by omega), Nat.div_div_eq_div_mul, Nat.div_div_eq_div_mul, Nat.mul_comm]
  have hq := quo_lt (n := n) (k := k) hz hd
  rw [e1, rem_step (d := d) hk]
  unfold remT at *
  generalize nv ((zs.take n).drop (k + 1)) = w at *
  have e2 : zs.getD k 0 + 4294967296 * w = (w % d * 4294967296 + zs.getD k 0) + d * (w / d * 4294967296) := by
    have := Nat.mod_add_div w d
    have e3 : 4294967296 * w = 4294967296 * (w % d + d * (w / d)) := by rw [this]
    rw [e3]; grind
  rw [e2]
  generalize w % d = r at *
  rw [Nat.add_mul_div_left _ _ hd, Nat.add_mul_mod_self_right, Nat.mod_eq_of_lt]
  rw [Nat.div_lt_iff_lt_mul hd]
  omega
theorem divT_set {zs : List Nat} {n d k : Nat} (hz : Dig zs) (hn : n ≤ zs.length) (hd : 0 < d) (hk : k < n) : (divT zs n d (k + 1)).set k ((remT zs n d (k + 1) * 4294967296 + zs.getD k 0) / d) = divT zs n d k := by
  rw [quo_digit hz hn hd hk]
  have l1 : (zs.take k).length = k := by simp; omega
  have e1 : zs.take (k + 1) = zs.take k ++ [zs.getD k 0] := by
    rw [List.take_succ_eq_append_getElem (by omega), List.getD_eq_getElem?_getD, List.getElem?_eq_getElem (by omega)]; rfl
  have e2 : (dgn n (nv (zs.take n) / d)).drop k = (nv (zs.take n) / d / 4294967296 ^ k % 4294967296) :: (dgn n (nv (zs.take n) / d)).drop (k + 1) := by
    rw [List.drop_eq_getElem_cons (by rw [dgn_length]; exact hk)]
    congr 1
    rw [← dgn_getD n _ k hk, List.getD_eq_getElem?_getD, List.getElem?_eq_getElem (by rw [dgn_length]; exact hk)]; rfl
  unfold divT
  rw [e1, e2, List.append_assoc, List.set_append_right _ _ (by omega), l1, Nat.sub_self]
  simp
theorem divT_start {zs : List Nat} {n d : Nat} (hn : n ≤ zs.length) : divT zs n d n = zs ∧ remT zs n d n = 0 := by
  constructor
  · unfold divT
    rw [List.drop_of_length_le (by rw [dgn_length]; exact Nat.le_refl _), List.nil_append, List.take_append_drop]
  · unfold remT
    rw [List.drop_of_length_le (by simp; omega)]; simp [nv]
theorem divT_end (zs : List Nat) (n d : Nat) : divT zs n d 0 = dgn n (nv (zs.take n) / d) ++ zs.drop n ∧ remT zs n d 0 = nv (zs.take n) % d := by
  simp [divT, remT]
theorem divT_dig {zs : List Nat} {n d k : Nat} (hz : Dig zs) : Dig (divT zs n d k) := by
  unfold divT
  exact Dig.app.2 ⟨hz.take k, Dig.app.2 ⟨(dgn_dig _ _).drop k, hz.drop n⟩⟩

theorem nv_take_tn (zs : List Nat) : ∀ n, n ≤ zs.length → nv (zs.take (tn zs n)) = nv (zs.take n)
  | 0, _ => rfl
  | n + 1, h => by
    simp only [tn]
    split
    · rename_i h0
      rw [nv_take_tn zs n (by omega), nv_take_succ zs n (by omega), h0]; simp
    · rfl
theorem nv_tn_pos (zs : List Nat) : ∀ n, n ≤ zs.length → 0 < tn zs n → 0 < nv (zs.take (tn zs n))
  | 0, _, h0 => by simp [tn] at h0
  | n + 1, h, h0 => by
    simp only [tn] at h0 ⊢
    split at h0
    · rename_i h1
      rw [if_pos h1]; exact nv_tn_pos zs n (by omega) h0
    · rename_i h1
      rw [if_neg h1, nv_take_succ zs n (by omega)]
      have := Nat.mul_pos (show 0 < zs.getD n 0 by omega) (pow_pos32 n)
      omega
/-- the rest after a division -/
theorem rest_step {zs : List Nat} {n d : Nat} (hz : Dig zs) (hn : n ≤ zs.length) (hd : 0 < d) :
    (dgn n (nv (zs.take n) / d) ++ zs.drop n).length = zs.length ∧ Dig (dgn n (nv (zs.take n) / d) ++ zs.drop n) ∧ nv ((dgn n (nv (zs.take n) / d) ++ zs.drop n).take (tn (dgn n (nv (zs.take n) / d) ++ zs.drop n) n)) = nv (zs.take n) / d := by
  have hl : (dgn n (nv (zs.take n) / d) ++ zs.drop n).length = zs.length := by simp [dgn_length]; omega
  refine ⟨hl, Dig.app.2 ⟨dgn_dig _ _, hz.drop n⟩, ?_⟩
  rw [nv_take_tn _ _ (by omega)]
  have e : (dgn n (nv (zs.take n) / d) ++ zs.drop n).take n = dgn n (nv (zs.take n) / d) := by
    rw [List.take_append_of_le_length (by rw [dgn_length]; exact Nat.le_refl _)]
    exact List.take_of_length_le (by rw [dgn_length]; exact Nat.le_refl _)
  have hb := nv_lt (hz.take n)
  rw [show (zs.take n).length = n by simp; omega] at hb
  rw [e, nv_dgn, Nat.mod_eq_of_lt (Nat.lt_of_le_of_lt (Nat.div_le_self _ _) hb)]
/-- how many groups there can be -/
theorem groups_le {V k L : Nat} (h : 0 < V / 10 ^ (9 * k)) (hV : V < 4294967296 ^ L) : k ≤ 2 * L := by
  refine Classical.byContradiction fun hn => ?_
  have hp : 0 < 10 ^ (9 * k) := Nat.pow_pos (by decide)
  have h1 : 10 ^ (9 * k) ≤ V := (Nat.div_pos_iff.1 h).2
  have h2 : 65536 ^ (2 * L) ≤ 65536 ^ k := Nat.pow_le_pow_right (by decide) (by omega)
  have h3 : 65536 ^ k ≤ (10 ^ 9) ^ k := Nat.pow_le_pow_left (by decide) k
  have h4 : 65536 ^ (2 * L) = 4294967296 ^ L := by rw [Nat.pow_mul]
  rw [← Nat.pow_mul] at h3
  omega
/-- bytes -/
def u8s (xs : List Nat) : List D := xs.map fun (x : Nat) => D.v (.int .u8 (x : Int))
theorem u8s_nameless (xs : List Nat) : NamelessL (u8s xs) := NamelessL.map _ (fun _ => by simp [Nameless]) xs
theorem u8s_length (xs : List Nat) : (u8s xs).length = xs.length := by simp [u8s]
theorem u8s_cell (xs : List Nat) (i : Nat) : cellInt ((u8s xs).getD i default) = (xs.getD i 0 : Nat) := by
  simp only [u8s, List.getD_eq_getElem?_getD, List.getElem?_map]
  cases xs[i]? <;> rfl
theorem u8s_isInt (xs : List Nat) (i : Nat) (h : i < xs.length) : IsInt .u8 ((u8s xs).getD i default) = True := by
  simp only [u8s, List.getD_eq_getElem?_getD, List.getElem?_map, List.getElem?_eq_getElem h, Option.map_some, Option.getD_some, eq_iff_iff, iff_true]
  exact rfl
theorem u8s_take (xs : List Nat) (n : Nat) : (u8s xs).take n = u8s (xs.take n) := by simp [u8s]
theorem u8s_append (xs ys : List Nat) : u8s xs ++ u8s ys = u8s (xs ++ ys) := by simp [u8s]
theorem u8s_put (o : List Nat) (j x : Nat) : (u8s o).set j (.v (.int .u8 (x : Int))) = u8s (o.set j x) := by simp [u8s]
def unb (ds : List D) : List Nat := ds.map fun d => (cellInt d).toNat
theorem unb_u8s (xs : List Nat) : unb (u8s xs) = xs := by
  simp [unb, u8s, cellInt, Function.comp_def]
theorem u8s_all (xs : List Nat) : AllU8 (u8s xs) := fun d hd => by
  simp only [u8s, List.mem_map] at hd
  obtain ⟨x, _, rfl⟩ := hd
  exact rfl
/-- the k lowest decimal digits, as characters -/
def dd : Nat → Nat → List Nat
  | 0, _ => []
  | k + 1, v => (48 + v % 10) :: dd k (v / 10)
theorem dd_length : ∀ k v, (dd k v).length = k
  | 0, v => rfl
  | k + 1, v => by simp [dd, dd_length k]
theorem dd_add : ∀ k m v, dd (k + m) v = dd k v ++ dd m (v / 10 ^ k)
  | 0, m, v => by simp [dd]
  | k + 1, m, v => by
    rw [show k + 1 + m = (k + m) + 1 by omega, dd, dd, dd_add k m, List.cons_append, Nat.div_div_eq_div_mul, Nat.pow_succ, Nat.mul_comm 10]
theorem dd_succ (k v : Nat) : dd (k + 1) v = dd k v ++ [48 + v / 10 ^ k % 10] := by rw [dd_add k 1]; rfl
theorem dd_mod : ∀ k v x, dd k (v + 10 ^ k * x) = dd k v
  | 0, v, x => rfl
  | k + 1, v, x => by
    have e : v + 10 ^ (k + 1) * x = v + 10 * (10 ^ k * x) := by rw [Nat.pow_succ]; grind
    have e1 : (v + 10 * (10 ^ k * x)) % 10 = v % 10 := by omega
    have e2 : (v + 10 * (10 ^ k * x)) / 10 = v / 10 + 10 ^ k * x := by omega
    rw [dd, dd, e, e1, e2, dd_mod k]
theorem chr8 {q : Nat} : IntKind.u8.wrap (48 + IntKind.u8.wrap ((q : Int).tmod 10)) = ((48 + q % 10 : Nat) : Int) := by
  rw [Int.tmod_eq_emod_of_nonneg (by omega), wrap_u8, wrap_u8]; omega
theorem chr8b {q : Nat} : IntKind.u8.wrap (IntKind.u32.wrap (48 + (q : Int).tmod 10)) = ((48 + q % 10 : Nat) : Int) := by
  rw [Int.tmod_eq_emod_of_nonneg (by omega), wrap_u8, wrap_u32]; omega
theorem quo10 {q : Nat} (h : q < 4294967296) : IntKind.u32.wrap ((q : Int).tdiv 10) = ((q / 10 : Nat) : Int) := by
  rw [Int.tdiv_eq_ediv_of_nonneg (by omega), wrap_u32]; omega
theorem dd_group (k V : Nat) : dd (9 * k) V ++ dd 9 (V / 10 ^ (9 * k) % 1000000000) = dd (9 * (k + 1)) V := by
  rw [show 9 * (k + 1) = 9 * k + 9 by omega, dd_add (9 * k) 9]
  congr 1
  have := dd_mod 9 (V / 10 ^ (9 * k) % 1000000000) (V / 10 ^ (9 * k) / 1000000000)
  rw [← this, show (10 : Nat) ^ 9 = 1000000000 by rfl, Nat.mod_add_div]
/-- how many decimal digits -/
def nd (v : Nat) : Nat := if h : v = 0 then 0 else nd (v / 10) + 1
termination_by v
decreasing_by omega
theorem nd_eq : ∀ (j v : Nat), 10 ^ j ≤ v → v < 10 ^ (j + 1) → nd v = j + 1
  | 0, v, h1, h2 => by
    unfold nd
    rw [dif_neg (by omega), show v / 10 = 0 by omega]
    unfold nd; simp
  | j + 1, v, h1, h2 => by
    have h3 : 10 ^ j ≤ v / 10 := by rw [Nat.le_div_iff_mul_le (by decide), ← Nat.pow_succ]; exact h1
    have h4 : v / 10 < 10 ^ (j + 1) := by rw [Nat.div_lt_iff_lt_mul (by decide), ← Nat.pow_succ]; exact h2
    have := nd_eq j (v / 10) h3 h4
    have : 0 < 10 ^ (j + 1) := Nat.pow_pos (by decide)
    unfold nd
    rw [dif_neg (by omega)]; omega

theorem dd_getD : ∀ k v j, j < k → (dd k v).getD j 0 = 48 + v / 10 ^ j % 10
  | 0, v, j, h => by omega
  | k + 1, v, 0, h => by simp [dd]
  | k + 1, v, j + 1, h => by
    have := dd_getD k (v / 10) j (by omega)
    rw [dd, List.getD_cons_succ, this, Nat.div_div_eq_div_mul, Nat.pow_succ, Nat.mul_comm 10]
theorem dd_take {k j : Nat} (h : j ≤ k) (v : Nat) : (dd k v).take j = dd j v := by
  rw [show k = j + (k - j) by omega, dd_add, List.take_append_of_le_length (by rw [dd_length]; exact Nat.le_refl _)]
  exact List.take_of_length_le (by rw [dd_length]; exact Nat.le_refl _)
/-- a zero in front -/
theorem lead_zero {v n : Nat} (h : v < 10 ^ (n + 1)) (h0 : v / 10 ^ n % 10 = 0) : v < 10 ^ n := by
  have hp : 0 < 10 ^ n := Nat.pow_pos (by decide)
  have h1 : v / 10 ^ n < 10 := by rw [Nat.div_lt_iff_lt_mul hp, Nat.mul_comm, ← Nat.pow_succ]; exact h
  have h2 : v / 10 ^ n = 0 := by clear h; generalize v / 10 ^ n = q at *; omega
  rcases Nat.lt_or_ge v (10 ^ n) with h3 | h3
  · exact h3
  · have := Nat.div_pos h3 hp; omega
theorem lead_some {v n : Nat} (h : v < 10 ^ (n + 1)) (h0 : v / 10 ^ n % 10 ≠ 0) : nd v = n + 1 := by
  have hp : 0 < 10 ^ n := Nat.pow_pos (by decide)
  refine nd_eq n v ?_ h
  rcases Nat.lt_or_ge v (10 ^ n) with h3 | h3
  · rw [Nat.div_eq_of_lt h3] at h0; simp at h0
  · exact h3
/-- the bytes of a number's text -/
def decL (neg : Bool) (v : Nat) : List Nat := (dd (nd v) v ++ bif neg then [45] else []).reverse
theorem rev_take {m : Nat} {L : List Nat} (h : m ≤ L.length) : (u8s ((L.take m).reverse ++ L.drop m)).take m = u8s (L.take m).reverse := by
  have hl : (L.take m).reverse.length = m := by simp; omega
  rw [u8s_take, List.take_append_of_le_length (by omega)]
  congr 1
  exact List.take_of_length_le (by omega)
/-- reversal, i places from both ends done -/
def revT (xs : List Nat) (i : Nat) : List Nat := (List.range xs.length).map fun k => if k < i ∨ xs.length ≤ k + i then xs.getD (xs.length - 1 - k) 0 else xs.getD k 0
theorem revT_length (xs : List Nat) (i : Nat) : (revT xs i).length = xs.length := by simp [revT]
theorem revT_start (xs : List Nat) : revT xs 0 = xs := by
  apply List.ext_getElem (by simp [revT])
  intro k h1 h2
  simp [revT]
  rw [if_neg (by omega)]
  simp [h2]
theorem revT_end {xs : List Nat} {i : Nat} (h : xs.length ≤ i + i + 1) : revT xs i = xs.reverse := by
  apply List.ext_getElem (by simp [revT])
  intro k h1 h2
  simp only [List.length_reverse] at h2
  simp only [revT, List.getElem_map, List.getElem_range, List.getElem_reverse]
  split
  · rw [List.getD_eq_getElem?_getD, List.getElem?_eq_getElem (by omega)]; rfl
  · rename_i hh
    rw [List.getD_eq_getElem?_getD, List.getElem?_eq_getElem (by omega)]
    simp only [Option.getD_some]
    congr 1; omega
theorem revT_get {xs : List Nat} {i k : Nat} (hk : k < xs.length) : (revT xs i).getD k 0 = if k < i ∨ xs.length ≤ k + i then xs.getD (xs.length - 1 - k) 0 else xs.getD k 0 := by
  rw [List.getD_eq_getElem?_getD, List.getElem?_eq_getElem (by rw [revT_length]; exact hk)]
  simp [revT]
theorem revT_step {xs : List Nat} {i : Nat} (h : i + i + 1 < xs.length) : ((revT xs i).set i ((revT xs i).getD (xs.length - 1 - i) 0)).set (xs.length - 1 - i) ((revT xs i).getD i 0) = revT xs (i + 1) := by
  have ga := revT_get (i := i) (show xs.length - 1 - i < xs.length by omega)
  have gb := revT_get (i := i) (show i < xs.length by omega)
  generalize (revT xs i).getD (xs.length - 1 - i) 0 = a at *
  generalize (revT xs i).getD i 0 = b at *
  subst ga; subst gb
  apply List.ext_getElem (by simp [revT])
  intro k h1 h2
  rw [revT_length] at h2
  simp only [List.getElem_set, revT, List.getElem_map, List.getElem_range]
  by_cases k1 : xs.length - 1 - i = k
  · subst k1
    rw [if_pos rfl, if_neg (by omega), if_pos (by omega)]
    congr 1; omega
  · rw [if_neg k1]
    by_cases k2 : i = k
    · subst k2
      rw [if_pos rfl, if_neg (by omega), if_pos (by omega)]
    · rw [if_neg k2]
      by_cases k3 : k < i ∨ xs.length ≤ k + i
      · rw [if_pos k3, if_pos (by omega)]
      · rw [if_neg k3, if_neg (by omega)]
end Go.Proofs.Ytgilijgbljgekaa
