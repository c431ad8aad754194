/- Layer 3: small numbers have exact results; identities of products, powers, norms. -/
import Derived.Test.YtbjjlngchidikaaDoorCb
namespace Go.Proofs.YtbjjlngchidikaaDoor
open Go.VD
set_option linter.unusedVariables false
set_option linter.unusedSimpArgs false
set_option maxRecDepth 100000

def B4 (m a b c d : Int) : Prop := (-m ≤ a ∧ a ≤ m) ∧ (-m ≤ b ∧ b ≤ m) ∧ (-m ≤ c ∧ c ≤ m) ∧ -m ≤ d ∧ d ≤ m
theorem B4.up {m n a b c d : Int} (h : B4 m a b c d) (hn : m ≤ n) : B4 n a b c d := by unfold B4 at *; omega
theorem w4_in {n m a b c d : Int} (h : B4 m a b c d) (hn : m ≤ n) : w4 n a b c d = true := w4_iff.2 (h.up hn)
theorem addC_in {a b c d e f g h : Int} (h1 : B4 288230376151711744 a b c d) (h2 : B4 288230376151711744 e f g h) : addC a b c d e f g h = (a + e, b + f, c + g, d + h, 0) := by
  have h3 : w4 576460752303423488 (a + e) (b + f) (c + g) (d + h) = true := w4_iff.2 (by unfold B4 at *; omega)
  simp [addC, lim4, w4_in h1 (n := 576460752303423488) (by decide), w4_in h2 (n := 576460752303423488) (by decide), h3]
theorem subC_in {a b c d e f g h : Int} (h1 : B4 288230376151711744 a b c d) (h2 : B4 288230376151711744 e f g h) : subC a b c d e f g h = (a - e, b - f, c - g, d - h, 0) := by
  have h3 : w4 576460752303423488 (a - e) (b - f) (c - g) (d - h) = true := w4_iff.2 (by unfold B4 at *; omega)
  simp [subC, lim4, w4_in h1 (n := 576460752303423488) (by decide), w4_in h2 (n := 576460752303423488) (by decide), h3]
theorem mulC_in {a b c d e f g h : Int} (h1 : B4 268435456 a b c d) (h2 : B4 268435456 e f g h) : mulC a b c d e f g h = (pc0 a b c d e f g h, pc1 a b c d e f g h, pc2 a b c d e f g h, pc3 a b c d e f g h, 0) := by
  simp [mulC, w4_in h1 (Int.le_refl _), w4_in h2 (Int.le_refl _)]
theorem pc_B4 {a b c d e f g h : Int} (m n k : Nat) (h1 : B4 m a b c d) (h2 : B4 n e f g h) (hk : 6 * (m * n) ≤ k) : B4 k (pc0 a b c d e f g h) (pc1 a b c d e f g h) (pc2 a b c d e f g h) (pc3 a b c d e f g h) := by
  have := pc_bd m n h1 h2
  unfold B4; omega
theorem r_B4 (k : Int) : B4 1 (r0 k) (r1 k) (r2 k) (r3 k) := r_bd k
theorem turnC_in {a b c d : Int} (k : Int) (h1 : B4 72057594037927936 a b c d) : turnC a b c d k = (pc0 a b c d (r0 k) (r1 k) (r2 k) (r3 k), pc1 a b c d (r0 k) (r1 k) (r2 k) (r3 k), pc2 a b c d (r0 k) (r1 k) (r2 k) (r3 k), pc3 a b c d (r0 k) (r1 k) (r2 k) (r3 k), 0) := by
  have h2 := pc_B4 72057594037927936 1 576460752303423488 h1 (r_B4 k) (by omega)
  simp [turnC, lim4, w4_in h1 (n := 576460752303423488) (by decide), w4_iff.2 h2]
  rw [show w4 576460752303423488 _ _ _ _ = true from w4_iff.2 h2]
  rfl
theorem conjC_in {a b c d : Int} (h1 : B4 288230376151711744 a b c d) : conjC a b c d = (a + c, b, -c, -b - d, 0) := by
  have h3 : w4 576460752303423488 (a + c) b (-c) (-b - d) = true := w4_iff.2 (by unfold B4 at *; omega)
  simp [conjC, lim4, w4_in h1 (n := 576460752303423488) (by decide), h3]
theorem realC_in {a b c d : Int} (h1 : B4 144115188075855872 a b c d) : realC a b c d = (2 * a + c, b, 0) := by
  simp [realC, w4_in h1 (Int.le_refl _)]
theorem imagC_in {a b c d : Int} (h1 : B4 144115188075855872 a b c d) : imagC a b c d = (b + 2 * d, c, 0) := by
  simp [imagC, w4_in h1 (Int.le_refl _)]
theorem normC_in {a b c d : Int} (h1 : B4 268435456 a b c d) : normC a b c d = (nA a b c d, nB a b c d, 0) := by
  simp [normC, w4_in h1 (Int.le_refl _)]
theorem tmod_B4 (a b c d : Int) (k : Nat) (hk : 0 < k) : B4 k (a.tmod k) (b.tmod k) (c.tmod k) (d.tmod k) := by
  have h : ∀ x : Int, -(k : Int) ≤ x.tmod k ∧ x.tmod k ≤ k := fun x => ⟨Int.le_of_lt (Int.lt_tmod_of_pos x (by omega)), Int.le_of_lt (Int.tmod_lt_of_pos x (by omega))⟩
  exact ⟨h a, h b, h c, h d⟩

theorem fe {α : Type} {v : α} {P : α → Prop} (h : P v) : ∀ x, x = v → P x := fun _ e => e ▸ h
/-! ### identities -/
section
variable (a b c d e f g h p q r s : Int)
theorem pc_comm : pc0 a b c d e f g h = pc0 e f g h a b c d ∧ pc1 a b c d e f g h = pc1 e f g h a b c d ∧ pc2 a b c d e f g h = pc2 e f g h a b c d ∧ pc3 a b c d e f g h = pc3 e f g h a b c d := by
  unfold pc0 pc1 pc2 pc3
  refine ⟨?_, ?_, ?_, ?_⟩ <;> grind
theorem pc_assoc0 : pc0 (pc0 a b c d e f g h) (pc1 a b c d e f g h) (pc2 a b c d e f g h) (pc3 a b c d e f g h) p q r s = pc0 a b c d (pc0 e f g h p q r s) (pc1 e f g h p q r s) (pc2 e f g h p q r s) (pc3 e f g h p q r s) := by
  unfold pc0 pc1 pc2 pc3; grind
theorem pc_assoc1 : pc1 (pc0 a b c d e f g h) (pc1 a b c d e f g h) (pc2 a b c d e f g h) (pc3 a b c d e f g h) p q r s = pc1 a b c d (pc0 e f g h p q r s) (pc1 e f g h p q r s) (pc2 e f g h p q r s) (pc3 e f g h p q r s) := by
  unfold pc0 pc1 pc2 pc3; grind
theorem pc_assoc2 : pc2 (pc0 a b c d e f g h) (pc1 a b c d e f g h) (pc2 a b c d e f g h) (pc3 a b c d e f g h) p q r s = pc2 a b c d (pc0 e f g h p q r s) (pc1 e f g h p q r s) (pc2 e f g h p q r s) (pc3 e f g h p q r s) := by
  unfold pc0 pc1 pc2 pc3; grind
theorem pc_assoc3 : pc3 (pc0 a b c d e f g h) (pc1 a b c d e f g h) (pc2 a b c d e f g h) (pc3 a b c d e f g h) p q r s = pc3 a b c d (pc0 e f g h p q r s) (pc1 e f g h p q r s) (pc2 e f g h p q r s) (pc3 e f g h p q r s) := by
  unfold pc0 pc1 pc2 pc3; grind
theorem pc_one : pc0 a b c d 1 0 0 0 = a ∧ pc1 a b c d 1 0 0 0 = b ∧ pc2 a b c d 1 0 0 0 = c ∧ pc3 a b c d 1 0 0 0 = d := by
  unfold pc0 pc1 pc2 pc3; simp
theorem pc_add : (pc0 a b c d (e + p) (f + q) (g + r) (h + s) = pc0 a b c d e f g h + pc0 a b c d p q r s ∧ pc1 a b c d (e + p) (f + q) (g + r) (h + s) = pc1 a b c d e f g h + pc1 a b c d p q r s) ∧ pc2 a b c d (e + p) (f + q) (g + r) (h + s) = pc2 a b c d e f g h + pc2 a b c d p q r s ∧ pc3 a b c d (e + p) (f + q) (g + r) (h + s) = pc3 a b c d e f g h + pc3 a b c d p q r s := by
  unfold pc0 pc1 pc2 pc3
  refine ⟨⟨?_, ?_⟩, ?_, ?_⟩ <;> grind
/-- the conjugate of a product -/
theorem pc_conj : (pc0 a b c d e f g h + pc2 a b c d e f g h = pc0 (a + c) b (-c) (-b - d) (e + g) f (-g) (-f - h) ∧ pc1 a b c d e f g h = pc1 (a + c) b (-c) (-b - d) (e + g) f (-g) (-f - h)) ∧ -pc2 a b c d e f g h = pc2 (a + c) b (-c) (-b - d) (e + g) f (-g) (-f - h) ∧ -pc1 a b c d e f g h - pc3 a b c d e f g h = pc3 (a + c) b (-c) (-b - d) (e + g) f (-g) (-f - h) := by
  unfold pc0 pc1 pc2 pc3
  refine ⟨⟨?_, ?_⟩, ?_, ?_⟩ <;> grind
theorem pc_self : 2 * pc0 a b c d (a + c) b (-c) (-b - d) + pc2 a b c d (a + c) b (-c) (-b - d) = 2 * nA a b c d ∧ pc1 a b c d (a + c) b (-c) (-b - d) = 2 * nB a b c d := by
  unfold pc0 pc1 pc2 nA nB
  refine ⟨?_, ?_⟩ <;> grind
theorem n_mul : nA (pc0 a b c d e f g h) (pc1 a b c d e f g h) (pc2 a b c d e f g h) (pc3 a b c d e f g h) = nA a b c d * nA e f g h + 3 * (nB a b c d * nB e f g h) ∧ nB (pc0 a b c d e f g h) (pc1 a b c d e f g h) (pc2 a b c d e f g h) (pc3 a b c d e f g h) = nA a b c d * nB e f g h + nB a b c d * nA e f g h := by
  unfold nA nB pc0 pc1 pc2 pc3
  refine ⟨?_, ?_⟩ <;> grind
theorem n_par : nA (a + e) (b + f) (c + g) (d + h) + nA (a - e) (b - f) (c - g) (d - h) = 2 * (nA a b c d + nA e f g h) ∧ nB (a + e) (b + f) (c + g) (d + h) + nB (a - e) (b - f) (c - g) (d - h) = 2 * (nB a b c d + nB e f g h) := by
  unfold nA nB
  refine ⟨?_, ?_⟩ <;> grind
end
theorem rt_mul : ∀ i, i < 12 → ∀ j, j < 12 → pc0 (rt i).1 (rt i).2.1 (rt i).2.2.1 (rt i).2.2.2 (rt j).1 (rt j).2.1 (rt j).2.2.1 (rt j).2.2.2 = (rt ((i + j) % 12)).1 ∧ pc1 (rt i).1 (rt i).2.1 (rt i).2.2.1 (rt i).2.2.2 (rt j).1 (rt j).2.1 (rt j).2.2.1 (rt j).2.2.2 = (rt ((i + j) % 12)).2.1 ∧
    pc2 (rt i).1 (rt i).2.1 (rt i).2.2.1 (rt i).2.2.2 (rt j).1 (rt j).2.1 (rt j).2.2.1 (rt j).2.2.2 = (rt ((i + j) % 12)).2.2.1 ∧ pc3 (rt i).1 (rt i).2.1 (rt i).2.2.1 (rt i).2.2.2 (rt j).1 (rt j).2.1 (rt j).2.2.1 (rt j).2.2.2 = (rt ((i + j) % 12)).2.2.2 := by decide
theorem r_mul (k j : Int) : pc0 (r0 k) (r1 k) (r2 k) (r3 k) (r0 j) (r1 j) (r2 j) (r3 j) = r0 (k + j) ∧ pc1 (r0 k) (r1 k) (r2 k) (r3 k) (r0 j) (r1 j) (r2 j) (r3 j) = r1 (k + j) ∧ pc2 (r0 k) (r1 k) (r2 k) (r3 k) (r0 j) (r1 j) (r2 j) (r3 j) = r2 (k + j) ∧ pc3 (r0 k) (r1 k) (r2 k) (r3 k) (r0 j) (r1 j) (r2 j) (r3 j) = r3 (k + j) := by
  have h := rt_mul (ri k) (ri_lt k) (ri j) (ri_lt j)
  have e : (ri k + ri j) % 12 = ri (k + j) := by unfold ri; omega
  rw [e] at h
  exact h
theorem r_zero : r0 0 = 1 ∧ r1 0 = 0 ∧ r2 0 = 0 ∧ r3 0 = 0 := by decide
theorem rt_norm : ∀ i, i < 12 → nA (rt i).1 (rt i).2.1 (rt i).2.2.1 (rt i).2.2.2 = 1 ∧ nB (rt i).1 (rt i).2.1 (rt i).2.2.1 (rt i).2.2.2 = 0 := by decide
theorem r_norm (k : Int) : nA (r0 k) (r1 k) (r2 k) (r3 k) = 1 ∧ nB (r0 k) (r1 k) (r2 k) (r3 k) = 0 := rt_norm (ri k) (ri_lt k)

/-! ### the sign of a norm -/
theorem sq_nn (x : Int) : 0 ≤ x * x := by
  by_cases h : x = 0
  · subst h; simp
  · exact Int.le_of_lt (sq_pos h)
theorem nA_quad (a b c d : Int) : 2 * nA a b c d = (a * a + c * c + (a + c) * (a + c)) + (b * b + d * d + (b + d) * (b + d)) := by unfold nA; grind
theorem nA_nn (a b c d : Int) : 0 ≤ nA a b c d := by
  have := nA_quad a b c d
  have := sq_nn a; have := sq_nn b; have := sq_nn c; have := sq_nn d; have := sq_nn (a + c); have := sq_nn (b + d)
  omega
theorem nA_zero {a b c d : Int} (h : nA a b c d = 0) : a = 0 ∧ b = 0 ∧ c = 0 ∧ d = 0 := by
  have := nA_quad a b c d
  have h1 := sq_nn a; have h2 := sq_nn b; have h3 := sq_nn c; have h4 := sq_nn d; have := sq_nn (a + c); have := sq_nn (b + d)
  have z : ∀ x : Int, x * x = 0 → x = 0 := fun x hx => by
    refine Classical.byContradiction fun hn => ?_
    have := sq_pos hn; omega
  exact ⟨z a (by omega), z b (by omega), z c (by omega), z d (by omega)⟩
/-- the norm of the norm is a sum of two squares -/
theorem n_disc (a b c d : Int) : nA a b c d * nA a b c d - 3 * (nB a b c d * nB a b c d) = (a * a - d * d + a * c - b * b - b * d + c * c - 0) * (a * a - d * d + a * c - b * b - b * d + c * c - 0) + (a * b + 2 * (a * d) - b * c + c * d + 0) * (a * b + 2 * (a * d) - b * c + c * d + 0) := by
  unfold nA nB; grind
theorem norm_sign {a b c d : Int} (h : B4 4096 a b c d) : 0 ≤ sg (nA a b c d) (nB a b c d) ∧ (sg (nA a b c d) (nB a b c d) == 0) = (a == 0 && (b == 0 && (c == 0 && (d == 0 && true)))) := by
  have hb := n_bd 4096 h
  have h0 := nA_nn a b c d
  have hd := n_disc a b c d
  have hu := sq_nn (a * a - d * d + a * c - b * b - b * d + c * c - 0)
  have hv := sq_nn (a * b + 2 * (a * d) - b * c + c * d + 0)
  have hz : nA a b c d = 0 → a = 0 ∧ b = 0 ∧ c = 0 ∧ d = 0 := nA_zero
  have hz2 : (a = 0 ∧ b = 0 ∧ c = 0 ∧ d = 0) → nA a b c d = 0 := by
    rintro ⟨rfl, rfl, rfl, rfl⟩; rfl
  have hB := PB_big
  generalize nA a b c d = A at *
  generalize nB a b c d = B at *
  have hBB := sq_nn B
  unfold sg
  by_cases hl : 3 * (B * B) < A * A
  · have hA : A ≠ 0 := fun e => by subst e; omega
    simp only [hl, decide_true, cond_true]
    rw [Int.sign_eq_one_of_pos (by omega)]
    refine ⟨by decide, ?_⟩
    have : ¬ (a = 0 ∧ b = 0 ∧ c = 0 ∧ d = 0) := fun h => hA (hz2 h)
    rw [Bool.eq_iff_iff]
    simp only [beq_iff_eq, Bool.and_eq_true, and_true]
    exact ⟨fun h => absurd h (by decide), fun h => absurd h this⟩
  · have e : A * A = 3 * (B * B) := by omega
    have hb0 := irrational (p := A) (q := B) (by omega) (by omega) e
    subst hb0
    have hA : A = 0 := by
      refine Classical.byContradiction fun hn => ?_
      have := sq_pos hn; omega
    simp only [hl, decide_false, cond_false]
    obtain ⟨rfl, rfl, rfl, rfl⟩ := hz hA
    exact ⟨by decide, by decide⟩
theorem n_turn (a b c d k : Int) : nA (pc0 a b c d (r0 k) (r1 k) (r2 k) (r3 k)) (pc1 a b c d (r0 k) (r1 k) (r2 k) (r3 k)) (pc2 a b c d (r0 k) (r1 k) (r2 k) (r3 k)) (pc3 a b c d (r0 k) (r1 k) (r2 k) (r3 k)) = nA a b c d ∧ nB (pc0 a b c d (r0 k) (r1 k) (r2 k) (r3 k)) (pc1 a b c d (r0 k) (r1 k) (r2 k) (r3 k)) (pc2 a b c d (r0 k) (r1 k) (r2 k) (r3 k)) (pc3 a b c d (r0 k) (r1 k) (r2 k) (r3 k)) = nB a b c d := by
  have h := n_mul a b c d (r0 k) (r1 k) (r2 k) (r3 k)
  have hr := r_norm k
  rw [hr.1, hr.2] at h
  rw [h.1, h.2]
  omega
end Go.Proofs.YtbjjlngchidikaaDoor
