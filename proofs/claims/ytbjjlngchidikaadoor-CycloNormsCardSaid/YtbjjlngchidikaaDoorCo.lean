/- Layer 3: exported functions on bounded numbers: exact answers. -/
import Derived.Test.YtbjjlngchidikaaDoorCg
import Derived.Test.YtbjjlngchidikaaDoorPa
namespace Go.Proofs.YtbjjlngchidikaaDoor
open Go.VD
set_option linter.unusedVariables false
set_option linter.unusedSimpArgs false
set_option maxRecDepth 100000

theorem bturn_pure (a b c d k : Int) (hpre : B4 72057594037927936 a b c d) : PureJ Tryd.prog 25 [.agg [.v (.int .i64 a), .v (.int .i64 b), .v (.int .i64 c), .v (.int .i64 d)], .v (.int .i64 k)] (.tup [d_cyc (pc0 a b c d (r0 k) (r1 k) (r2 k) (r3 k)) (pc1 a b c d (r0 k) (r1 k) (r2 k) (r3 k)) (pc2 a b c d (r0 k) (r1 k) (r2 k) (r3 k)) (pc3 a b c d (r0 k) (r1 k) (r2 k) (r3 k)), .v (.int .i64 0)]) := by
  have h := cturn_pure a b c d k
  rw [turnC_in k hpre] at h
  exact h
def entq_bturn : EntQ := fun ds K => match ds with
  | [.agg [.v (.int .i64 a), .v (.int .i64 b), .v (.int .i64 c), .v (.int .i64 d)], .v (.int .i64 k)] => some ((B4 72057594037927936 a b c d) ∧ (∀ x0 : Int, x0 = pc0 a b c d (r0 k) (r1 k) (r2 k) (r3 k) → (∀ x1 : Int, x1 = pc1 a b c d (r0 k) (r1 k) (r2 k) (r3 k) → (∀ x2 : Int, x2 = pc2 a b c d (r0 k) (r1 k) (r2 k) (r3 k) → (∀ x3 : Int, x3 = pc3 a b c d (r0 k) (r1 k) (r2 k) (r3 k) → K (.tup [.agg [.v (.int .i64 x0), .v (.int .i64 x1), .v (.int .i64 x2), .v (.int .i64 x3)], .v (.int .i64 0)]))))))
  | _ => none
theorem entq_bturn_ok : EntQOk Tryd.prog 25 entq_bturn := by
  intro ds K p h hp; unfold entq_bturn at h; split at h
  · injection h with h; subst h; exact ⟨_, bturn_pure _ _ _ _ _ hp.1, hp.2 _ rfl _ rfl _ rfl _ rfl⟩
  · cases h
theorem breal_pure (a b c d : Int) (hpre : B4 144115188075855872 a b c d) : PureJ Tryd.prog 27 [.agg [.v (.int .i64 a), .v (.int .i64 b), .v (.int .i64 c), .v (.int .i64 d)]] (.tup [.agg [.v (.int .i64 (2 * a + c)), .v (.int .i64 (b))], .v (.int .i64 0)]) := by
  have h := creal_pure a b c d
  rw [realC_in hpre] at h
  exact h
def entq_breal : EntQ := fun ds K => match ds with
  | [.agg [.v (.int .i64 a), .v (.int .i64 b), .v (.int .i64 c), .v (.int .i64 d)]] => some ((B4 144115188075855872 a b c d) ∧ (∀ x0 : Int, x0 = 2 * a + c → (∀ x1 : Int, x1 = b → K (.tup [.agg [.v (.int .i64 x0), .v (.int .i64 x1)], .v (.int .i64 0)]))))
  | _ => none
theorem entq_breal_ok : EntQOk Tryd.prog 27 entq_breal := by
  intro ds K p h hp; unfold entq_breal at h; split at h
  · injection h with h; subst h; exact ⟨_, breal_pure _ _ _ _ hp.1, hp.2 _ rfl _ rfl⟩
  · cases h
theorem bimag_pure (a b c d : Int) (hpre : B4 144115188075855872 a b c d) : PureJ Tryd.prog 29 [.agg [.v (.int .i64 a), .v (.int .i64 b), .v (.int .i64 c), .v (.int .i64 d)]] (.tup [.agg [.v (.int .i64 (b + 2 * d)), .v (.int .i64 (c))], .v (.int .i64 0)]) := by
  have h := cimag_pure a b c d
  rw [imagC_in hpre] at h
  exact h
def entq_bimag : EntQ := fun ds K => match ds with
  | [.agg [.v (.int .i64 a), .v (.int .i64 b), .v (.int .i64 c), .v (.int .i64 d)]] => some ((B4 144115188075855872 a b c d) ∧ (∀ x0 : Int, x0 = b + 2 * d → (∀ x1 : Int, x1 = c → K (.tup [.agg [.v (.int .i64 x0), .v (.int .i64 x1)], .v (.int .i64 0)]))))
  | _ => none
theorem entq_bimag_ok : EntQOk Tryd.prog 29 entq_bimag := by
  intro ds K p h hp; unfold entq_bimag at h; split at h
  · injection h with h; subst h; exact ⟨_, bimag_pure _ _ _ _ hp.1, hp.2 _ rfl _ rfl⟩
  · cases h
theorem bnorm_pure (a b c d : Int) (hpre : B4 268435456 a b c d) : PureJ Tryd.prog 31 [.agg [.v (.int .i64 a), .v (.int .i64 b), .v (.int .i64 c), .v (.int .i64 d)]] (.tup [.agg [.v (.int .i64 (nA a b c d)), .v (.int .i64 (nB a b c d))], .v (.int .i64 0)]) := by
  have h := cnorm_pure a b c d
  rw [normC_in hpre] at h
  exact h
def entq_bnorm : EntQ := fun ds K => match ds with
  | [.agg [.v (.int .i64 a), .v (.int .i64 b), .v (.int .i64 c), .v (.int .i64 d)]] => some ((B4 268435456 a b c d) ∧ (∀ x0 : Int, x0 = nA a b c d → (∀ x1 : Int, x1 = nB a b c d → K (.tup [.agg [.v (.int .i64 x0), .v (.int .i64 x1)], .v (.int .i64 0)]))))
  | _ => none
theorem entq_bnorm_ok : EntQOk Tryd.prog 31 entq_bnorm := by
  intro ds K p h hp; unfold entq_bnorm at h; split at h
  · injection h with h; subst h; exact ⟨_, bnorm_pure _ _ _ _ hp.1, hp.2 _ rfl _ rfl⟩
  · cases h
theorem bsub_pure (a b c d e f g h : Int) (hpre : B4 288230376151711744 a b c d ∧ B4 288230376151711744 e f g h) : PureJ Tryd.prog 17 [.agg [.v (.int .i64 a), .v (.int .i64 b), .v (.int .i64 c), .v (.int .i64 d)], .agg [.v (.int .i64 e), .v (.int .i64 f), .v (.int .i64 g), .v (.int .i64 h)]] (.tup [d_cyc (a - e) (b - f) (c - g) (d - h), .v (.int .i64 0)]) := by
  have h := csub_pure a b c d e f g h
  rw [subC_in hpre.1 hpre.2] at h
  exact h
def entq_bsub : EntQ := fun ds K => match ds with
  | [.agg [.v (.int .i64 a), .v (.int .i64 b), .v (.int .i64 c), .v (.int .i64 d)], .agg [.v (.int .i64 e), .v (.int .i64 f), .v (.int .i64 g), .v (.int .i64 h)]] => some ((B4 288230376151711744 a b c d ∧ B4 288230376151711744 e f g h) ∧ (∀ x0 : Int, x0 = a - e → (∀ x1 : Int, x1 = b - f → (∀ x2 : Int, x2 = c - g → (∀ x3 : Int, x3 = d - h → K (.tup [.agg [.v (.int .i64 x0), .v (.int .i64 x1), .v (.int .i64 x2), .v (.int .i64 x3)], .v (.int .i64 0)]))))))
  | _ => none
theorem entq_bsub_ok : EntQOk Tryd.prog 17 entq_bsub := by
  intro ds K p h hp; unfold entq_bsub at h; split at h
  · injection h with h; subst h; exact ⟨_, bsub_pure _ _ _ _ _ _ _ _ hp.1, hp.2 _ rfl _ rfl _ rfl _ rfl⟩
  · cases h
theorem prod_bound {x y : Int} (k : Nat) (hx : -(k : Int) ≤ x ∧ x ≤ k) (hy : -(k : Int) ≤ y ∧ y ≤ k) : -((k * k : Nat) : Int) ≤ x * y ∧ x * y ≤ ((k * k : Nat) : Int) := by
  have : (x * y).natAbs ≤ k * k := by rw [Int.natAbs_mul]; exact Nat.mul_le_mul (by omega) (by omega)
  omega
theorem mulS_in2 {a b c d : Int} (h : ((-110000000 ≤ a ∧ a ≤ 110000000) ∧ -110000000 ≤ b ∧ b ≤ 110000000) ∧ (-110000000 ≤ c ∧ c ≤ 110000000) ∧ -110000000 ≤ d ∧ d ≤ 110000000) : mulS a b c d = (a * c + 3 * (b * d), a * d + b * c, 0) := by
  have h1 : within a b 268435456 = true := within_iff.2 (by omega)
  have h2 : within c d 268435456 = true := within_iff.2 (by omega)
  have p1 := prod_bound (x := a) (y := c) 110000000 (by omega) (by omega)
  have p2 := prod_bound (x := b) (y := d) 110000000 (by omega) (by omega)
  have p3 := prod_bound (x := a) (y := d) 110000000 (by omega) (by omega)
  have p4 := prod_bound (x := b) (y := c) 110000000 (by omega) (by omega)
  have e3 : 3 * b * d = 3 * (b * d) := Int.mul_assoc _ _ _
  have w0 : IntKind.wrap IntKind.i64 (3 * b) = 3 * b := wrap_i64_of (by omega) (by omega)
  have w1 : IntKind.wrap IntKind.i64 (a * c) = a * c := wrap_i64_of (by omega) (by omega)
  have w2 : IntKind.wrap IntKind.i64 (3 * b * d) = 3 * (b * d) := by rw [e3]; exact wrap_i64_of (by omega) (by omega)
  have w3 : IntKind.wrap IntKind.i64 (a * d) = a * d := wrap_i64_of (by omega) (by omega)
  have w4 : IntKind.wrap IntKind.i64 (b * c) = b * c := wrap_i64_of (by omega) (by omega)
  unfold mulS lim
  rw [w0, w1, w2, w3, w4]
  generalize a * c = x1 at *
  generalize b * d = x2 at *
  generalize a * d = x3 at *
  generalize b * c = x4 at *
  have w5 : IntKind.wrap IntKind.i64 (x1 + 3 * x2) = x1 + 3 * x2 := wrap_i64_of (by omega) (by omega)
  have w6 : IntKind.wrap IntKind.i64 (x3 + x4) = x3 + x4 := wrap_i64_of (by omega) (by omega)
  rw [w5, w6]
  have h3 : within (x1 + 3 * x2) (x3 + x4) 1152921504606846976 = true := within_iff.2 (by omega)
  simp [h1, h2, h3]
theorem bsmul_pure (a b c d : Int) (hpre : ((-110000000 ≤ a ∧ a ≤ 110000000) ∧ -110000000 ≤ b ∧ b ≤ 110000000) ∧ (-110000000 ≤ c ∧ c ≤ 110000000) ∧ -110000000 ≤ d ∧ d ≤ 110000000) : PureJ Tryd.prog 37 [.agg [.v (.int .i64 a), .v (.int .i64 b)], .agg [.v (.int .i64 c), .v (.int .i64 d)]] (.tup [.agg [.v (.int .i64 (a * c + 3 * (b * d))), .v (.int .i64 (a * d + b * c))], .v (.int .i64 0)]) := by
  have h := smul_pure a b c d
  rw [mulS_in2 hpre] at h
  exact h
def entq_bsmul : EntQ := fun ds K => match ds with
  | [.agg [.v (.int .i64 a), .v (.int .i64 b)], .agg [.v (.int .i64 c), .v (.int .i64 d)]] => some ((((-110000000 ≤ a ∧ a ≤ 110000000) ∧ -110000000 ≤ b ∧ b ≤ 110000000) ∧ (-110000000 ≤ c ∧ c ≤ 110000000) ∧ -110000000 ≤ d ∧ d ≤ 110000000) ∧ (∀ x0 : Int, x0 = a * c + 3 * (b * d) → (∀ x1 : Int, x1 = a * d + b * c → K (.tup [.agg [.v (.int .i64 x0), .v (.int .i64 x1)], .v (.int .i64 0)]))))
  | _ => none
theorem entq_bsmul_ok : EntQOk Tryd.prog 37 entq_bsmul := by
  intro ds K p h hp; unfold entq_bsmul at h; split at h
  · injection h with h; subst h; exact ⟨_, bsmul_pure _ _ _ _ hp.1, hp.2 _ rfl _ rfl⟩
  · cases h
theorem bsadd_pure (a b c d : Int) (hpre : ((-500000000000000000 ≤ a ∧ a ≤ 500000000000000000) ∧ -500000000000000000 ≤ b ∧ b ≤ 500000000000000000) ∧ (-500000000000000000 ≤ c ∧ c ≤ 500000000000000000) ∧ -500000000000000000 ≤ d ∧ d ≤ 500000000000000000) : PureJ Tryd.prog 39 [.agg [.v (.int .i64 a), .v (.int .i64 b)], .agg [.v (.int .i64 c), .v (.int .i64 d)]] (.tup [.agg [.v (.int .i64 (a + c)), .v (.int .i64 (b + d))], .v (.int .i64 0)]) := by
  have h := sadd_pure a b c d
  rw [addS_in hpre] at h
  exact h
def entq_bsadd : EntQ := fun ds K => match ds with
  | [.agg [.v (.int .i64 a), .v (.int .i64 b)], .agg [.v (.int .i64 c), .v (.int .i64 d)]] => some ((((-500000000000000000 ≤ a ∧ a ≤ 500000000000000000) ∧ -500000000000000000 ≤ b ∧ b ≤ 500000000000000000) ∧ (-500000000000000000 ≤ c ∧ c ≤ 500000000000000000) ∧ -500000000000000000 ≤ d ∧ d ≤ 500000000000000000) ∧ (∀ x0 : Int, x0 = a + c → (∀ x1 : Int, x1 = b + d → K (.tup [.agg [.v (.int .i64 x0), .v (.int .i64 x1)], .v (.int .i64 0)]))))
  | _ => none
theorem entq_bsadd_ok : EntQOk Tryd.prog 39 entq_bsadd := by
  intro ds K p h hp; unfold entq_bsadd at h; split at h
  · injection h with h; subst h; exact ⟨_, bsadd_pure _ _ _ _ hp.1, hp.2 _ rfl _ rfl⟩
  · cases h
end Go.Proofs.YtbjjlngchidikaaDoor
