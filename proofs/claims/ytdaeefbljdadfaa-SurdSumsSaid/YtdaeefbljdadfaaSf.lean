/- Layer 2: the laws on products of signs and on the total order. -/
import Derived.Test.YtdaeefbljdadfaaSe
import Derived.Test.YtdaeefbljdadfaaSc
namespace Go.Proofs.Ytdaeefbljdadfaa
open Go.VD
set_option linter.unusedVariables false
set_option linter.unusedSimpArgs false
set_option maxRecDepth 100000

theorem sg_bound (p q : Int) : -1 ≤ sg p q ∧ sg p q ≤ 1 := by
  have sb : ∀ x : Int, -1 ≤ x.sign ∧ x.sign ≤ 1 := fun x => by
    rcases Int.lt_trichotomy x 0 with h | h | h
    · rw [Int.sign_eq_neg_one_of_neg h]; omega
    · subst h; decide
    · rw [Int.sign_eq_one_of_pos h]; omega
  unfold sg
  cases decide (3 * (q * q) < p * p) <;> exact sb _
theorem tmod_bound (a : Int) {k : Int} (hk : 0 < k) : -k < a.tmod k ∧ a.tmod k < k := ⟨Int.lt_tmod_of_pos a hk, Int.tmod_lt_of_pos a hk⟩
theorem cmpS_in {a b c d : Int} (h : ((-1152921504606846976 ≤ a ∧ a ≤ 1152921504606846976) ∧ -1152921504606846976 ≤ b ∧ b ≤ 1152921504606846976) ∧ (-1152921504606846976 ≤ c ∧ c ≤ 1152921504606846976) ∧ -1152921504606846976 ≤ d ∧ d ≤ 1152921504606846976) : cmpS a b c d = (sg (a - c) (b - d), 0) := by
  have h1 := within_iff.2 h.1
  have h2 := within_iff.2 h.2
  simp [cmpS, h1, h2]
theorem addS_in {a b c d : Int} (h : ((-500000000000000000 ≤ a ∧ a ≤ 500000000000000000) ∧ -500000000000000000 ≤ b ∧ b ≤ 500000000000000000) ∧ (-500000000000000000 ≤ c ∧ c ≤ 500000000000000000) ∧ -500000000000000000 ≤ d ∧ d ≤ 500000000000000000) : addS a b c d = (a + c, b + d, 0) := by
  have h1 : within a b 1152921504606846976 = true := within_iff.2 (by omega)
  have h2 : within c d 1152921504606846976 = true := within_iff.2 (by omega)
  have h3 : within (a + c) (b + d) 1152921504606846976 = true := within_iff.2 (by omega)
  simp [addS, lim, h1, h2, h3]
theorem sign_nonneg_iff (x : Int) : 0 ≤ x.sign ↔ 0 ≤ x := by
  rcases Int.lt_trichotomy x 0 with h | h | h
  · rw [Int.sign_eq_neg_one_of_neg h]; omega
  · subst h; decide
  · rw [Int.sign_eq_one_of_pos h]; omega
theorem sg_add_nonneg {p q r s : Int} (hq : -1000000000000000000 < q ∧ q < 1000000000000000000) (hs : -1000000000000000000 < s ∧ s < 1000000000000000000) (h1 : 0 ≤ sg p q) (h2 : 0 ≤ sg r s) : 0 ≤ sg (p + r) (q + s) := by
  have hB := PB_big
  rw [sg_lin (by omega) (by omega)] at h1 h2 ⊢
  rw [sign_nonneg_iff] at *
  have : (p + r) * PB + (q + s) * PA = (p * PB + q * PA) + (r * PB + s * PA) := by grind
  omega
theorem lawTotal_pure (a b c d e f : Int) : PureJ Try.prog 8 [.agg [.v (.int .i64 a), .v (.int .i64 b)], .agg [.v (.int .i64 c), .v (.int .i64 d)], .agg [.v (.int .i64 e), .v (.int .i64 f)]] (.v (.bool true)) := by
  refine pureJ_of_vcx (call := (addPure 10 ent_known (addPure 29 ent_small (addPure 25 ent_compare (addPure 13 ent_add noCalls))))) (lp := fun _ => none) (N := 10) T_ok mixed (addPure_ok ent_known_ok (addPure_ok ent_small_ok (addPure_ok ent_compare_ok (addPure_ok ent_add_ok noCalls_ok)))) Try.func8 rfl (by decide) (by kernel_rfl) (by kernel_rfl) (LpAll.none _) (by first | trivial | (simp only [NamelessL, Nameless, and_self, and_true, true_and]; done) | (simp [NamelessL, Nameless, u32s_nameless, namelessL_ints]; done)) (by first | trivial | (simp only [NamelessL, Nameless, and_self, and_true, true_and]; done) | (simp [NamelessL, Nameless, u32s_nameless, namelessL_ints]; done)) ?_
  refine of_eq (B := (True ∧ (True ∧ (True ∧ (True ∧ (True ∧ (True ∧ (((2 : Nat) ≤ (2 : Nat)) ∧ (True ∧ (((2 : Nat) ≤ (2 : Nat)) ∧ (True ∧ (((2 : Nat) ≤ (2 : Nat)) ∧ (True ∧ ((((2 : Nat) = (2 : Nat)) ∧ ((2 : Nat) ≤ (2 : Nat))) ∧ ((((2 : Nat) = (2 : Nat)) ∧ ((2 : Nat) ≤ (2 : Nat))) ∧ ((((2 : Nat) = (2 : Nat)) ∧ ((2 : Nat) ≤ (2 : Nat))) ∧ ((Bool.true = Bool.true) ∧ (((2 : Nat) ≤ (2 : Nat)) ∧ (((2 : Nat) ≤ (2 : Nat)) ∧ (True ∧ (True ∧ (True ∧ (True ∧ (True ∧ (True ∧ (((2 : Nat) ≤ (2 : Nat)) ∧ (((2 : Nat) ≤ (2 : Nat)) ∧ (True ∧ (True ∧ (True ∧ (True ∧ (True ∧ (True ∧ (((2 : Nat) ≤ (2 : Nat)) ∧ (((2 : Nat) ≤ (2 : Nat)) ∧ (True ∧ (True ∧ (True ∧ (True ∧ (True ∧ ((((2 : Nat) = (2 : Nat)) ∧ ((2 : Nat) ≤ (2 : Nat))) ∧ (True ∧ (((2 : Nat) ≤ (2 : Nat)) ∧ (((2 : Nat) ≤ (2 : Nat)) ∧ (True ∧ (True ∧ (True ∧ (True ∧ (True ∧ ((((2 : Nat) = (2 : Nat)) ∧ ((2 : Nat) ≤ (2 : Nat))) ∧ (True ∧ (((2 : Nat) ≤ (2 : Nat)) ∧ (((2 : Nat) ≤ (2 : Nat)) ∧ (True ∧ (True ∧ (True ∧ (True ∧ (True ∧ (True ∧ (((2 : Nat) ≤ (2 : Nat)) ∧ (((2 : Nat) ≤ (2 : Nat)) ∧ (True ∧ (True ∧ (True ∧ (True ∧ (True ∧ (True ∧ (((2 : Nat) ≤ (2 : Nat)) ∧ (((2 : Nat) ≤ (2 : Nat)) ∧ (True ∧ (True ∧ (True ∧ (True ∧ (True ∧ (True ∧ (True ∧ (True ∧ (True ∧ (pcond ((Prod.snd (cmpS (Int.tmod a (1048576 : Int)) (Int.tmod b (1048576 : Int)) (Int.tmod c (1048576 : Int)) (Int.tmod d (1048576 : Int)))) == (0 : Int)) (True ∧ (True ∧ (True ∧ (True ∧ (pcond ((Prod.snd (cmpS (Int.tmod c (1048576 : Int)) (Int.tmod d (1048576 : Int)) (Int.tmod a (1048576 : Int)) (Int.tmod b (1048576 : Int)))) == (0 : Int)) (True ∧ (True ∧ (True ∧ (True ∧ (pcond ((Prod.snd (cmpS (Prod.fst (addS (Int.tmod a (1048576 : Int)) (Int.tmod b (1048576 : Int)) (Int.tmod e (1048576 : Int)) (Int.tmod f (1048576 : Int)))) (Prod.fst (Prod.snd (addS (Int.tmod a (1048576 : Int)) (Int.tmod b (1048576 : Int)) (Int.tmod e (1048576 : Int)) (Int.tmod f (1048576 : Int))))) (Prod.fst (addS (Int.tmod c (1048576 : Int)) (Int.tmod d (1048576 : Int)) (Int.tmod e (1048576 : Int)) (Int.tmod f (1048576 : Int)))) (Prod.fst (Prod.snd (addS (Int.tmod c (1048576 : Int)) (Int.tmod d (1048576 : Int)) (Int.tmod e (1048576 : Int)) (Int.tmod f (1048576 : Int))))))) == (0 : Int)) (True ∧ (True ∧ (True ∧ (True ∧ (True ∧ (True ∧ (pcond ((Prod.fst (cmpS (Int.tmod a (1048576 : Int)) (Int.tmod b (1048576 : Int)) (Int.tmod c (1048576 : Int)) (Int.tmod d (1048576 : Int)))) == (IntKind.wrap IntKind.i64 ((0 : Int) - (Prod.fst (cmpS (Int.tmod c (1048576 : Int)) (Int.tmod d (1048576 : Int)) (Int.tmod a (1048576 : Int)) (Int.tmod b (1048576 : Int))))))) (True ∧ (True ∧ (True ∧ (True ∧ (True ∧ (pcond ((Prod.fst (cmpS (Int.tmod a (1048576 : Int)) (Int.tmod b (1048576 : Int)) (Int.tmod c (1048576 : Int)) (Int.tmod d (1048576 : Int)))) == (Prod.fst (cmpS (Prod.fst (addS (Int.tmod a (1048576 : Int)) (Int.tmod b (1048576 : Int)) (Int.tmod e (1048576 : Int)) (Int.tmod f (1048576 : Int)))) (Prod.fst (Prod.snd (addS (Int.tmod a (1048576 : Int)) (Int.tmod b (1048576 : Int)) (Int.tmod e (1048576 : Int)) (Int.tmod f (1048576 : Int))))) (Prod.fst (addS (Int.tmod c (1048576 : Int)) (Int.tmod d (1048576 : Int)) (Int.tmod e (1048576 : Int)) (Int.tmod f (1048576 : Int)))) (Prod.fst (Prod.snd (addS (Int.tmod c (1048576 : Int)) (Int.tmod d (1048576 : Int)) (Int.tmod e (1048576 : Int)) (Int.tmod f (1048576 : Int)))))))) (True ∧ (True ∧ (((2 : Nat) ≤ (2 : Nat)) ∧ (((2 : Nat) ≤ (2 : Nat)) ∧ ((((((0 : Nat) < (2 : Nat)) ∧ (IsInt IntKind.i64 (D.v (Value.int IntKind.i64 (Int.tmod a (1048576 : Int)))))) ∧ (((0 : Nat) < (2 : Nat)) ∧ (IsInt IntKind.i64 (D.v (Value.int IntKind.i64 (Int.tmod c (1048576 : Int))))))) ∧ (True ∧ (((((1 : Nat) < (2 : Nat)) ∧ (IsInt IntKind.i64 (D.v (Value.int IntKind.i64 (Int.tmod b (1048576 : Int)))))) ∧ (((1 : Nat) < (2 : Nat)) ∧ (IsInt IntKind.i64 (D.v (Value.int IntKind.i64 (Int.tmod d (1048576 : Int))))))) ∧ (True ∧ True)))) ∧ (True ∧ (True ∧ (True ∧ (pcond (((Prod.fst (cmpS (Int.tmod a (1048576 : Int)) (Int.tmod b (1048576 : Int)) (Int.tmod c (1048576 : Int)) (Int.tmod d (1048576 : Int)))) == (0 : Int)) == (((Int.tmod a (1048576 : Int)) == (Int.tmod c (1048576 : Int))) && (((Int.tmod b (1048576 : Int)) == (Int.tmod d (1048576 : Int))) && Bool.true))) (True ∧ (True ∧ (True ∧ (pcond (Decidable.decide ((Prod.fst (cmpS (Int.tmod a (1048576 : Int)) (Int.tmod b (1048576 : Int)) (Int.tmod c (1048576 : Int)) (Int.tmod d (1048576 : Int)))) < (0 : Int))) (True ∧ (True ∧ (True ∧ (True ∧ (True ∧ (True ∧ (True ∧ ((D.v (Value.bool Bool.true)) = (D.v (Value.bool Bool.true)))))))))) (True ∧ (True ∧ (True ∧ (True ∧ (pcond (Decidable.decide ((Prod.fst (cmpS (Int.tmod c (1048576 : Int)) (Int.tmod d (1048576 : Int)) (Int.tmod e (1048576 : Int)) (Int.tmod f (1048576 : Int)))) < (0 : Int))) (True ∧ (True ∧ (True ∧ (True ∧ (True ∧ ((D.v (Value.bool Bool.true)) = (D.v (Value.bool Bool.true)))))))) (True ∧ (True ∧ (True ∧ (True ∧ (True ∧ (True ∧ (True ∧ ((D.v (Value.bool (Decidable.decide ((0 : Int) ≤ (Prod.fst (cmpS (Int.tmod a (1048576 : Int)) (Int.tmod b (1048576 : Int)) (Int.tmod e (1048576 : Int)) (Int.tmod f (1048576 : Int)))))))) = (D.v (Value.bool Bool.true))))))))))))))))))) ((([] : List Value) = ([] : List Value)) ∧ ((([] : List Value) = ([] : List Value)) ∧ ((([] : List Value) = ([] : List Value)) ∧ ((([] : List Value) = ([] : List Value)) ∧ (True ∧ (True ∧ (True ∧ (True ∧ ((D.v (Value.bool Bool.false)) = (D.v (Value.bool Bool.true)))))))))))))))))))) (True ∧ (True ∧ ((([] : List Value) = ([] : List Value)) ∧ ((([] : List Value) = ([] : List Value)) ∧ ((([] : List Value) = ([] : List Value)) ∧ ((([] : List Value) = ([] : List Value)) ∧ (True ∧ (True ∧ (True ∧ (True ∧ ((D.v (Value.bool Bool.false)) = (D.v (Value.bool Bool.true))))))))))))))))))) (True ∧ (True ∧ (True ∧ (True ∧ ((([] : List Value) = ([] : List Value)) ∧ ((([] : List Value) = ([] : List Value)) ∧ ((([] : List Value) = ([] : List Value)) ∧ ((([] : List Value) = ([] : List Value)) ∧ (True ∧ (True ∧ (True ∧ (True ∧ ((D.v (Value.bool Bool.false)) = (D.v (Value.bool Bool.true)))))))))))))))))))))) (True ∧ (True ∧ (True ∧ (True ∧ (True ∧ (True ∧ ((([] : List Value) = ([] : List Value)) ∧ ((([] : List Value) = ([] : List Value)) ∧ ((([] : List Value) = ([] : List Value)) ∧ ((([] : List Value) = ([] : List Value)) ∧ (True ∧ (True ∧ (True ∧ (True ∧ ((D.v (Value.bool Bool.false)) = (D.v (Value.bool Bool.true)))))))))))))))))))))) (True ∧ (True ∧ (True ∧ (True ∧ (True ∧ (True ∧ (True ∧ (True ∧ ((([] : List Value) = ([] : List Value)) ∧ ((([] : List Value) = ([] : List Value)) ∧ ((([] : List Value) = ([] : List Value)) ∧ ((([] : List Value) = ([] : List Value)) ∧ (True ∧ (True ∧ (True ∧ (True ∧ ((D.v (Value.bool Bool.false)) = (D.v (Value.bool Bool.true)))))))))))))))))))))))) (True ∧ (True ∧ (True ∧ (True ∧ (True ∧ (True ∧ (True ∧ (True ∧ (True ∧ (True ∧ ((([] : List Value) = ([] : List Value)) ∧ ((([] : List Value) = ([] : List Value)) ∧ ((([] : List Value) = ([] : List Value)) ∧ ((([] : List Value) = ([] : List Value)) ∧ (True ∧ (True ∧ (True ∧ (True ∧ ((D.v (Value.bool Bool.false)) = (D.v (Value.bool Bool.true)))))))))))))))))))))))))))))))))))))))))))))))))))))))))))))))))))))))))))))))))))))))))))))))))))) (by kernel_rfl) ?_
  simp only [true_and, and_true, and_self, IsInt_lit, IsBool_lit, IsStr_lit, Bool.not_eq_true', Bool.not_eq_false', Bool.not_true, Bool.not_false, Int.reduceLE, Int.reduceLT, Int.reduceNeg, Nat.le_refl, Int.le_refl, Nat.reduceLT, Nat.reduceLeDiff, Nat.reduceEqDiff, D.v.injEq, D.tup.injEq, D.agg.injEq, D.ro.injEq, List.cons.injEq, Value.int.injEq, Value.bool.injEq, pcond_true, pcond_false, NamelessL, Nameless, Nat.reduceMul, Nat.reduceAdd, Nat.zero_add, Int.toNat_natCast]
  have ha := tmod_bound a (k := 1048576) (by decide)
  have hb := tmod_bound b (k := 1048576) (by decide)
  have hc := tmod_bound c (k := 1048576) (by decide)
  have hd := tmod_bound d (k := 1048576) (by decide)
  have he := tmod_bound e (k := 1048576) (by decide)
  have hf := tmod_bound f (k := 1048576) (by decide)
  generalize a.tmod 1048576 = a at *
  generalize b.tmod 1048576 = b at *
  generalize c.tmod 1048576 = c at *
  generalize d.tmod 1048576 = d at *
  generalize e.tmod 1048576 = e at *
  generalize f.tmod 1048576 = f at *
  have hneg : sg (c - a) (d - b) = -sg (a - c) (b - d) := by rw [← sg_neg]; congr 1 <;> omega
  have hs := sg_bound (a - c) (b - d)
  have hw : IntKind.wrap IntKind.i64 (0 - -sg (a - c) (b - d)) = sg (a - c) (b - d) := by rw [wrap_i64_of] <;> omega
  have h0 : (sg (a - c) (b - d) == 0) = (a == c && (b == d && true)) := by
    rw [Bool.eq_iff_iff]
    simp only [beq_iff_eq, Bool.and_eq_true, and_true]
    constructor
    · intro h; have := sg_zero h; omega
    · rintro ⟨rfl, rfl⟩; simp [sg]
  rw [cmpS_in (by omega), cmpS_in (by omega), addS_in (by omega), addS_in (by omega)]
  dsimp only
  rw [cmpS_in (by omega), cmpS_in (by omega), cmpS_in (by omega)]
  rw [show a + e - (c + e) = a - c by omega, show b + f - (d + f) = b - d by omega]
  simp only [hneg, hw, h0, beq_self_eq_true, pcond_true]
  refine pcond_intro (fun _ => trivial) (fun h1 => pcond_intro (fun _ => trivial) (fun h2 => ?_))
  simp only [decide_eq_false_iff_not] at h1 h2
  rw [decide_eq_true_eq]
  have := sg_add_nonneg (p := a - c) (q := b - d) (r := c - e) (s := d - f) (by omega) (by omega) (by omega) (by omega)
  rwa [show a - c + (c - e) = a - e by omega, show b - d + (d - f) = b - f by omega] at this
def ent_lawTotal : Ent := fun ds => match ds with
  | [.agg [.v (.int .i64 a), .v (.int .i64 b)], .agg [.v (.int .i64 c), .v (.int .i64 d)], .agg [.v (.int .i64 e), .v (.int .i64 f)]] => some (.v (.bool true), True)
  | _ => none
theorem ent_lawTotal_ok : EntOk Try.prog 8 ent_lawTotal := by
  intro ds d c h hc; unfold ent_lawTotal at h; split at h
  · obtain ⟨rfl, rfl⟩ := pair_inj h; exact lawTotal_pure _ _ _ _ _ _
  · cases h
theorem prod_bound {x y : Int} (k : Nat) (hx : -(k : Int) ≤ x ∧ x ≤ k) (hy : -(k : Int) ≤ y ∧ y ≤ k) : -((k * k : Nat) : Int) ≤ x * y ∧ x * y ≤ ((k * k : Nat) : Int) := by
  have : (x * y).natAbs ≤ k * k := by rw [Int.natAbs_mul]; exact Nat.mul_le_mul (by omega) (by omega)
  omega
theorem mulS_in {a b c d : Int} (h : ((-8000000 ≤ a ∧ a ≤ 8000000) ∧ -8000000 ≤ b ∧ b ≤ 8000000) ∧ (-8000000 ≤ c ∧ c ≤ 8000000) ∧ -8000000 ≤ d ∧ d ≤ 8000000) : mulS a b c d = (a * c + 3 * (b * d), a * d + b * c, 0) := by
  have h1 : within a b 268435456 = true := within_iff.2 (by omega)
  have h2 : within c d 268435456 = true := within_iff.2 (by omega)
  have p1 := prod_bound (x := a) (y := c) 8000000 (by omega) (by omega)
  have p2 := prod_bound (x := b) (y := d) 8000000 (by omega) (by omega)
  have p3 := prod_bound (x := a) (y := d) 8000000 (by omega) (by omega)
  have p4 := prod_bound (x := b) (y := c) 8000000 (by omega) (by omega)
  have e3 : 3 * b * d = 3 * (b * d) := Int.mul_assoc _ _ _
  have w0 : IntKind.wrap IntKind.i64 (3 * b) = 3 * b := wrap_i64_of (by omega) (by omega)
  have w1 : IntKind.wrap IntKind.i64 (a * c) = a * c := wrap_i64_of (by omega) (by omega)
  have w2 : IntKind.wrap IntKind.i64 (3 * b * d) = 3 * (b * d) := by rw [e3]; exact wrap_i64_of (by omega) (by omega)
  have w3 : IntKind.wrap IntKind.i64 (a * d) = a * d := wrap_i64_of (by omega) (by omega)
  have w4 : IntKind.wrap IntKind.i64 (b * c) = b * c := wrap_i64_of (by omega) (by omega)
  unfold mulS lim
  rw [w0, w1, w2, w3, w4]
  generalize a * c = x1 at *
  generalize b * d = x2 at *
  generalize a * d = x3 at *
  generalize b * c = x4 at *
  have w5 : IntKind.wrap IntKind.i64 (x1 + 3 * x2) = x1 + 3 * x2 := wrap_i64_of (by omega) (by omega)
  have w6 : IntKind.wrap IntKind.i64 (x3 + x4) = x3 + x4 := wrap_i64_of (by omega) (by omega)
  rw [w5, w6]
  have h3 : within (x1 + 3 * x2) (x3 + x4) 1152921504606846976 = true := within_iff.2 (by omega)
  simp [h1, h2, h3]
theorem normS_in {a b : Int} (h : (-8000000 ≤ a ∧ a ≤ 8000000) ∧ -8000000 ≤ b ∧ b ≤ 8000000) : normS a b = (a * a - 3 * (b * b), 0) := by
  have h1 : within a b 268435456 = true := within_iff.2 (by omega)
  have p1 := prod_bound (x := a) (y := a) 8000000 (by omega) (by omega)
  have p2 := prod_bound (x := b) (y := b) 8000000 (by omega) (by omega)
  have e3 : 3 * b * b = 3 * (b * b) := Int.mul_assoc _ _ _
  have w0 : IntKind.wrap IntKind.i64 (3 * b) = 3 * b := wrap_i64_of (by omega) (by omega)
  have w1 : IntKind.wrap IntKind.i64 (a * a) = a * a := wrap_i64_of (by omega) (by omega)
  have w2 : IntKind.wrap IntKind.i64 (3 * b * b) = 3 * (b * b) := by rw [e3]; exact wrap_i64_of (by omega) (by omega)
  unfold normS
  rw [w0, w1, w2, wrap_i64_of (by omega) (by omega)]
  simp [h1]
theorem conjS_in {a b : Int} (h : (-8000000 ≤ a ∧ a ≤ 8000000) ∧ -8000000 ≤ b ∧ b ≤ 8000000) : conjS a b = (a, -b, 0) := by
  have h1 : within a b 1152921504606846976 = true := within_iff.2 (by omega)
  simp [conjS, h1]
theorem lawMult_pure (a b c d : Int) : PureJ Try.prog 7 [.agg [.v (.int .i64 a), .v (.int .i64 b)], .agg [.v (.int .i64 c), .v (.int .i64 d)]] (.v (.bool true)) := by
  refine pureJ_of_vcx (call := (addPure 10 ent_known (addPure 29 ent_small (addPure 21 ent_mul (addPure 23 ent_norm (addPure 19 ent_conj (addPure 11 ent_sign noCalls))))))) (lp := fun _ => none) (N := 10) T_ok mixed (addPure_ok ent_known_ok (addPure_ok ent_small_ok (addPure_ok ent_mul_ok (addPure_ok ent_norm_ok (addPure_ok ent_conj_ok (addPure_ok ent_sign_ok noCalls_ok)))))) Try.func7 rfl (by decide) (by kernel_rfl) (by kernel_rfl) (LpAll.none _) (by first | trivial | (simp only [NamelessL, Nameless, and_self, and_true, true_and]; done) | (simp [NamelessL, Nameless, u32s_nameless, namelessL_ints]; done)) (by first | trivial | (simp only [NamelessL, Nameless, and_self, and_true, true_and]; done) | (simp [NamelessL, Nameless, u32s_nameless, namelessL_ints]; done)) ?_
  refine of_eq (B := (True ∧ (True ∧ (True ∧ (True ∧ (True ∧ (((2 : Nat) ≤ (2 : Nat)) ∧ (True ∧ (((2 : Nat) ≤ (2 : Nat)) ∧ (True ∧ ((((2 : Nat) = (2 : Nat)) ∧ ((2 : Nat) ≤ (2 : Nat))) ∧ ((((2 : Nat) = (2 : Nat)) ∧ ((2 : Nat) ≤ (2 : Nat))) ∧ ((Bool.true = Bool.true) ∧ (True ∧ ((((0 : Nat) < (2 : Nat)) ∧ (IsInt IntKind.i64 (D.v (Value.int IntKind.i64 (Int.tmod a (1048576 : Int)))))) ∧ (((1000 : Int) ≠ (0 : Int)) ∧ (True ∧ ((((1 : Nat) < (2 : Nat)) ∧ (IsInt IntKind.i64 (D.v (Value.int IntKind.i64 (Int.tmod b (1048576 : Int)))))) ∧ (((1000 : Int) ≠ (0 : Int)) ∧ (True ∧ ((((2 : Nat) = (2 : Nat)) ∧ ((2 : Nat) ≤ (2 : Nat))) ∧ (True ∧ ((((0 : Nat) < (2 : Nat)) ∧ (IsInt IntKind.i64 (D.v (Value.int IntKind.i64 (Int.tmod c (1048576 : Int)))))) ∧ (((1000 : Int) ≠ (0 : Int)) ∧ (True ∧ ((((1 : Nat) < (2 : Nat)) ∧ (IsInt IntKind.i64 (D.v (Value.int IntKind.i64 (Int.tmod d (1048576 : Int)))))) ∧ (((1000 : Int) ≠ (0 : Int)) ∧ (True ∧ ((((2 : Nat) = (2 : Nat)) ∧ ((2 : Nat) ≤ (2 : Nat))) ∧ (((2 : Nat) ≤ (2 : Nat)) ∧ (((2 : Nat) ≤ (2 : Nat)) ∧ (True ∧ (True ∧ (True ∧ (True ∧ (True ∧ ((((2 : Nat) = (2 : Nat)) ∧ ((2 : Nat) ≤ (2 : Nat))) ∧ (True ∧ (((2 : Nat) ≤ (2 : Nat)) ∧ (True ∧ (True ∧ (True ∧ (True ∧ (True ∧ (True ∧ (((2 : Nat) ≤ (2 : Nat)) ∧ (True ∧ (True ∧ (True ∧ (True ∧ (True ∧ (True ∧ (((2 : Nat) ≤ (2 : Nat)) ∧ (True ∧ (True ∧ (True ∧ (True ∧ (True ∧ (True ∧ (((2 : Nat) ≤ (2 : Nat)) ∧ (True ∧ (True ∧ (True ∧ (True ∧ (True ∧ ((((2 : Nat) = (2 : Nat)) ∧ ((2 : Nat) ≤ (2 : Nat))) ∧ (True ∧ (((2 : Nat) ≤ (2 : Nat)) ∧ (((2 : Nat) ≤ (2 : Nat)) ∧ (True ∧ (True ∧ (True ∧ (True ∧ (True ∧ ((((2 : Nat) = (2 : Nat)) ∧ ((2 : Nat) ≤ (2 : Nat))) ∧ (True ∧ (True ∧ (True ∧ (True ∧ (pcond ((Prod.snd (Prod.snd (mulS (Int.tmod (Int.tmod a (1048576 : Int)) (1000 : Int)) (Int.tmod (Int.tmod b (1048576 : Int)) (1000 : Int)) (Int.tmod (Int.tmod c (1048576 : Int)) (1000 : Int)) (Int.tmod (Int.tmod d (1048576 : Int)) (1000 : Int))))) == (0 : Int)) (((2 : Nat) ≤ (2 : Nat)) ∧ (((((-(9223372036854775808 : Int)) ≤ (Prod.fst (mulS (Int.tmod (Int.tmod a (1048576 : Int)) (1000 : Int)) (Int.tmod (Int.tmod b (1048576 : Int)) (1000 : Int)) (Int.tmod (Int.tmod c (1048576 : Int)) (1000 : Int)) (Int.tmod (Int.tmod d (1048576 : Int)) (1000 : Int))))) ∧ ((Prod.fst (mulS (Int.tmod (Int.tmod a (1048576 : Int)) (1000 : Int)) (Int.tmod (Int.tmod b (1048576 : Int)) (1000 : Int)) (Int.tmod (Int.tmod c (1048576 : Int)) (1000 : Int)) (Int.tmod (Int.tmod d (1048576 : Int)) (1000 : Int)))) < (9223372036854775808 : Int))) ∧ (((-(9223372036854775808 : Int)) ≤ (Prod.fst (Prod.snd (mulS (Int.tmod (Int.tmod a (1048576 : Int)) (1000 : Int)) (Int.tmod (Int.tmod b (1048576 : Int)) (1000 : Int)) (Int.tmod (Int.tmod c (1048576 : Int)) (1000 : Int)) (Int.tmod (Int.tmod d (1048576 : Int)) (1000 : Int)))))) ∧ ((Prod.fst (Prod.snd (mulS (Int.tmod (Int.tmod a (1048576 : Int)) (1000 : Int)) (Int.tmod (Int.tmod b (1048576 : Int)) (1000 : Int)) (Int.tmod (Int.tmod c (1048576 : Int)) (1000 : Int)) (Int.tmod (Int.tmod d (1048576 : Int)) (1000 : Int))))) < (9223372036854775808 : Int)))) ∧ (((2 : Nat) ≤ (2 : Nat)) ∧ (((((-(9223372036854775808 : Int)) ≤ (Int.tmod (Int.tmod a (1048576 : Int)) (1000 : Int))) ∧ ((Int.tmod (Int.tmod a (1048576 : Int)) (1000 : Int)) < (9223372036854775808 : Int))) ∧ (((-(9223372036854775808 : Int)) ≤ (Int.tmod (Int.tmod b (1048576 : Int)) (1000 : Int))) ∧ ((Int.tmod (Int.tmod b (1048576 : Int)) (1000 : Int)) < (9223372036854775808 : Int)))) ∧ (((2 : Nat) ≤ (2 : Nat)) ∧ (((((-(9223372036854775808 : Int)) ≤ (Int.tmod (Int.tmod c (1048576 : Int)) (1000 : Int))) ∧ ((Int.tmod (Int.tmod c (1048576 : Int)) (1000 : Int)) < (9223372036854775808 : Int))) ∧ (((-(9223372036854775808 : Int)) ≤ (Int.tmod (Int.tmod d (1048576 : Int)) (1000 : Int))) ∧ ((Int.tmod (Int.tmod d (1048576 : Int)) (1000 : Int)) < (9223372036854775808 : Int)))) ∧ (True ∧ (True ∧ (True ∧ (True ∧ (pcond ((sg (Prod.fst (mulS (Int.tmod (Int.tmod a (1048576 : Int)) (1000 : Int)) (Int.tmod (Int.tmod b (1048576 : Int)) (1000 : Int)) (Int.tmod (Int.tmod c (1048576 : Int)) (1000 : Int)) (Int.tmod (Int.tmod d (1048576 : Int)) (1000 : Int)))) (Prod.fst (Prod.snd (mulS (Int.tmod (Int.tmod a (1048576 : Int)) (1000 : Int)) (Int.tmod (Int.tmod b (1048576 : Int)) (1000 : Int)) (Int.tmod (Int.tmod c (1048576 : Int)) (1000 : Int)) (Int.tmod (Int.tmod d (1048576 : Int)) (1000 : Int)))))) == (IntKind.wrap IntKind.i64 ((sg (Int.tmod (Int.tmod a (1048576 : Int)) (1000 : Int)) (Int.tmod (Int.tmod b (1048576 : Int)) (1000 : Int))) * (sg (Int.tmod (Int.tmod c (1048576 : Int)) (1000 : Int)) (Int.tmod (Int.tmod d (1048576 : Int)) (1000 : Int)))))) (True ∧ (True ∧ (True ∧ (True ∧ (True ∧ (True ∧ (True ∧ (pcond ((Prod.fst (normS (Prod.fst (mulS (Int.tmod (Int.tmod a (1048576 : Int)) (1000 : Int)) (Int.tmod (Int.tmod b (1048576 : Int)) (1000 : Int)) (Int.tmod (Int.tmod c (1048576 : Int)) (1000 : Int)) (Int.tmod (Int.tmod d (1048576 : Int)) (1000 : Int)))) (Prod.fst (Prod.snd (mulS (Int.tmod (Int.tmod a (1048576 : Int)) (1000 : Int)) (Int.tmod (Int.tmod b (1048576 : Int)) (1000 : Int)) (Int.tmod (Int.tmod c (1048576 : Int)) (1000 : Int)) (Int.tmod (Int.tmod d (1048576 : Int)) (1000 : Int))))))) == (IntKind.wrap IntKind.i64 ((Prod.fst (normS (Int.tmod (Int.tmod a (1048576 : Int)) (1000 : Int)) (Int.tmod (Int.tmod b (1048576 : Int)) (1000 : Int)))) * (Prod.fst (normS (Int.tmod (Int.tmod c (1048576 : Int)) (1000 : Int)) (Int.tmod (Int.tmod d (1048576 : Int)) (1000 : Int))))))) (((2 : Nat) ≤ (2 : Nat)) ∧ (True ∧ (True ∧ ((((((0 : Nat) < (2 : Nat)) ∧ (IsInt IntKind.i64 (D.v (Value.int IntKind.i64 (Prod.fst (mulS (Int.tmod (Int.tmod a (1048576 : Int)) (1000 : Int)) (Int.tmod (Int.tmod b (1048576 : Int)) (1000 : Int)) (Prod.fst (conjS (Int.tmod (Int.tmod a (1048576 : Int)) (1000 : Int)) (Int.tmod (Int.tmod b (1048576 : Int)) (1000 : Int)))) (Prod.fst (Prod.snd (conjS (Int.tmod (Int.tmod a (1048576 : Int)) (1000 : Int)) (Int.tmod (Int.tmod b (1048576 : Int)) (1000 : Int))))))))))) ∧ (((0 : Nat) < (2 : Nat)) ∧ (IsInt IntKind.i64 (D.v (Value.int IntKind.i64 (Prod.fst (normS (Int.tmod (Int.tmod a (1048576 : Int)) (1000 : Int)) (Int.tmod (Int.tmod b (1048576 : Int)) (1000 : Int))))))))) ∧ (True ∧ (((((1 : Nat) < (2 : Nat)) ∧ (IsInt IntKind.i64 (D.v (Value.int IntKind.i64 (Prod.fst (Prod.snd (mulS (Int.tmod (Int.tmod a (1048576 : Int)) (1000 : Int)) (Int.tmod (Int.tmod b (1048576 : Int)) (1000 : Int)) (Prod.fst (conjS (Int.tmod (Int.tmod a (1048576 : Int)) (1000 : Int)) (Int.tmod (Int.tmod b (1048576 : Int)) (1000 : Int)))) (Prod.fst (Prod.snd (conjS (Int.tmod (Int.tmod a (1048576 : Int)) (1000 : Int)) (Int.tmod (Int.tmod b (1048576 : Int)) (1000 : Int)))))))))))) ∧ (((1 : Nat) < (2 : Nat)) ∧ (IsInt IntKind.i64 (D.v (Value.int IntKind.i64 (0 : Int)))))) ∧ (True ∧ True)))) ∧ (True ∧ (True ∧ ((Bool.true = Bool.true) ∧ (True ∧ (True ∧ ((D.v (Value.bool (((Prod.fst (mulS (Int.tmod (Int.tmod a (1048576 : Int)) (1000 : Int)) (Int.tmod (Int.tmod b (1048576 : Int)) (1000 : Int)) (Prod.fst (conjS (Int.tmod (Int.tmod a (1048576 : Int)) (1000 : Int)) (Int.tmod (Int.tmod b (1048576 : Int)) (1000 : Int)))) (Prod.fst (Prod.snd (conjS (Int.tmod (Int.tmod a (1048576 : Int)) (1000 : Int)) (Int.tmod (Int.tmod b (1048576 : Int)) (1000 : Int))))))) == (Prod.fst (normS (Int.tmod (Int.tmod a (1048576 : Int)) (1000 : Int)) (Int.tmod (Int.tmod b (1048576 : Int)) (1000 : Int))))) && (((Prod.fst (Prod.snd (mulS (Int.tmod (Int.tmod a (1048576 : Int)) (1000 : Int)) (Int.tmod (Int.tmod b (1048576 : Int)) (1000 : Int)) (Prod.fst (conjS (Int.tmod (Int.tmod a (1048576 : Int)) (1000 : Int)) (Int.tmod (Int.tmod b (1048576 : Int)) (1000 : Int)))) (Prod.fst (Prod.snd (conjS (Int.tmod (Int.tmod a (1048576 : Int)) (1000 : Int)) (Int.tmod (Int.tmod b (1048576 : Int)) (1000 : Int)))))))) == (0 : Int)) && Bool.true)))) = (D.v (Value.bool Bool.true)))))))))))) (True ∧ (True ∧ ((Bool.true = Bool.true) ∧ (True ∧ (True ∧ ((D.v (Value.bool Bool.false)) = (D.v (Value.bool Bool.true)))))))))))))))) (True ∧ (True ∧ (True ∧ (True ∧ ((Bool.true = Bool.true) ∧ (True ∧ (True ∧ ((D.v (Value.bool Bool.false)) = (D.v (Value.bool Bool.true))))))))))))))))))))) (True ∧ (True ∧ (True ∧ (True ∧ (True ∧ (True ∧ ((Bool.true = Bool.true) ∧ (True ∧ (True ∧ ((D.v (Value.bool Bool.false)) = (D.v (Value.bool Bool.true)))))))))))))))))))))))))))))))))))))))))))))))))))))))))))))))))))))))))))))))))))))))))))) (by kernel_rfl) ?_
  simp only [true_and, and_true, and_self, IsInt_lit, IsBool_lit, IsStr_lit, Bool.not_eq_true', Bool.not_eq_false', Bool.not_true, Bool.not_false, Int.reduceLE, Int.reduceLT, Int.reduceNeg, Nat.le_refl, Int.le_refl, Nat.reduceLT, Nat.reduceLeDiff, Nat.reduceEqDiff, D.v.injEq, D.tup.injEq, D.agg.injEq, D.ro.injEq, List.cons.injEq, Value.int.injEq, Value.bool.injEq, pcond_true, pcond_false, NamelessL, Nameless, Nat.reduceMul, Nat.reduceAdd, Nat.zero_add, Int.toNat_natCast]
  have ha := tmod_bound (a.tmod 1048576) (k := 1000) (by decide)
  have hb := tmod_bound (b.tmod 1048576) (k := 1000) (by decide)
  have hc := tmod_bound (c.tmod 1048576) (k := 1000) (by decide)
  have hd := tmod_bound (d.tmod 1048576) (k := 1000) (by decide)
  generalize (a.tmod 1048576).tmod 1000 = a at *
  generalize (b.tmod 1048576).tmod 1000 = b at *
  generalize (c.tmod 1048576).tmod 1000 = c at *
  generalize (d.tmod 1048576).tmod 1000 = d at *
  have p1 := prod_bound (x := a) (y := c) 1000 (by omega) (by omega)
  have p2 := prod_bound (x := b) (y := d) 1000 (by omega) (by omega)
  have p3 := prod_bound (x := a) (y := d) 1000 (by omega) (by omega)
  have p4 := prod_bound (x := b) (y := c) 1000 (by omega) (by omega)
  have p5 := prod_bound (x := a) (y := a) 1000 (by omega) (by omega)
  have p6 := prod_bound (x := b) (y := b) 1000 (by omega) (by omega)
  have p7 := prod_bound (x := c) (y := c) 1000 (by omega) (by omega)
  have p8 := prod_bound (x := d) (y := d) 1000 (by omega) (by omega)
  refine ⟨by decide, by decide, by decide, by decide, ?_⟩
  rw [mulS_in (a := a) (b := b) (c := c) (d := d) (by omega)]
  dsimp only
  rw [conjS_in (by omega), normS_in (a := a) (b := b) (by omega), normS_in (a := c) (b := d) (by omega), normS_in (by omega)]
  dsimp only
  rw [mulS_in (by omega)]
  dsimp only
  have hsg := sg_mul (a := a) (b := b) (c := c) (d := d) (by omega) (by omega) (by omega)
  have s1 := sg_bound a b
  have s2 := sg_bound c d
  have ws : IntKind.wrap IntKind.i64 (sg a b * sg c d) = sg a b * sg c d := by
    have := prod_bound (x := sg a b) (y := sg c d) 1 (by omega) (by omega)
    exact wrap_i64_of (by omega) (by omega)
  have q1 := prod_bound (x := a * a - 3 * (b * b)) (y := c * c - 3 * (d * d)) 4000000 (by omega) (by omega)
  have wn : IntKind.wrap IntKind.i64 ((a * a - 3 * (b * b)) * (c * c - 3 * (d * d))) = (a * a - 3 * (b * b)) * (c * c - 3 * (d * d)) := wrap_i64_of (by omega) (by omega)
  have en : (a * c + 3 * (b * d)) * (a * c + 3 * (b * d)) - 3 * ((a * d + b * c) * (a * d + b * c)) = (a * a - 3 * (b * b)) * (c * c - 3 * (d * d)) := by grind
  have e1 : a * a + 3 * (b * -b) = a * a - 3 * (b * b) := by grind
  have e2 : a * -b + b * a = 0 := by grind
  rw [ws, hsg, wn, en, e1, e2]
  simp only [beq_self_eq_true, pcond_true, Bool.and_self]
  refine ⟨⟨⟨by omega, by omega⟩, by omega, by omega⟩, ⟨⟨by omega, by omega⟩, by omega, by omega⟩, ⟨⟨by omega, by omega⟩, by omega, by omega⟩, trivial⟩
def ent_lawMult : Ent := fun ds => match ds with
  | [.agg [.v (.int .i64 a), .v (.int .i64 b)], .agg [.v (.int .i64 c), .v (.int .i64 d)]] => some (.v (.bool true), True)
  | _ => none
theorem ent_lawMult_ok : EntOk Try.prog 7 ent_lawMult := by
  intro ds d c h hc; unfold ent_lawMult at h; split at h
  · obtain ⟨rfl, rfl⟩ := pair_inj h; exact lawMult_pure _ _ _ _
  · cases h
end Go.Proofs.Ytdaeefbljdadfaa
