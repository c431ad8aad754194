/- Layer 2: signs and orders of the program. -/
import Derived.Test.YtdaeefbljdadfaaSd
import Derived.Test.YtdaeefbljdadfaaSm
namespace Go.Proofs.Ytdaeefbljdadfaa
open Go.VD
set_option linter.unusedVariables false
set_option linter.unusedSimpArgs false
set_option maxRecDepth 100000

theorem sq_bound {p : Int} (h1 : -9223372036854775808 ≤ p) (h2 : p < 9223372036854775808) : 0 ≤ p * p ∧ p * p ≤ 85070591730234615865843651857942052864 := by
  constructor
  · by_cases h : p = 0
    · subst h; simp
    · exact Int.le_of_lt (sq_pos h)
  · have : p.natAbs * p.natAbs ≤ 9223372036854775808 * 9223372036854775808 := Nat.mul_le_mul (by omega) (by omega)
    have e : ((p.natAbs * p.natAbs : Nat) : Int) = p * p := by simp
    omega
theorem signOf_pure (p q : Int) (hpre : (-9223372036854775808 ≤ p ∧ p < 9223372036854775808) ∧ -9223372036854775808 ≤ q ∧ q < 9223372036854775808) : PureJ Try.prog 32 [.v (.int .i64 p), .v (.int .i64 q)] (.v (.int .i64 (sg p q))) := by
  refine pureJ_of_vcx (call := (addPure 90 ent_nsquare (addPure 48 ent_triple (addPure 47 ent_greater (addPure 89 ent_nsign noCalls))))) (lp := fun _ => none) (N := 10) T_ok mixed (addPure_ok ent_nsquare_ok (addPure_ok ent_triple_ok (addPure_ok ent_greater_ok (addPure_ok ent_nsign_ok noCalls_ok)))) Try.func32 rfl (by decide) (by kernel_rfl) (by kernel_rfl) (LpAll.none _) (by first | trivial | (simp only [NamelessL, Nameless, and_self, and_true, true_and]; done) | (simp [NamelessL, Nameless, u32s_nameless, namelessL_ints]; done)) (by first | trivial | (simp only [NamelessL, Nameless, and_self, and_true, true_and]; done) | (simp [NamelessL, Nameless, u32s_nameless, namelessL_ints]; done)) ?_
  refine of_eq (B := (True ∧ (True ∧ (True ∧ ((((-(9223372036854775808 : Int)) ≤ p) ∧ (p < (9223372036854775808 : Int))) ∧ (True ∧ (True ∧ ((((-(9223372036854775808 : Int)) ≤ q) ∧ (q < (9223372036854775808 : Int))) ∧ ((((((0 : Int) ≤ ((q * q) % (18446744073709551616 : Int))) ∧ (((q * q) % (18446744073709551616 : Int)) < (18446744073709551616 : Int))) ∧ (((0 : Int) ≤ ((q * q) / (18446744073709551616 : Int))) ∧ (((q * q) / (18446744073709551616 : Int)) < (18446744073709551616 : Int)))) ∧ ((((0 : Int) ≤ (0 : Int)) ∧ ((0 : Int) < (18446744073709551616 : Int))) ∧ (((0 : Int) ≤ (0 : Int)) ∧ ((0 : Int) < (18446744073709551616 : Int))))) ∧ ((((((0 : Int) ≤ ((p * p) % (18446744073709551616 : Int))) ∧ (((p * p) % (18446744073709551616 : Int)) < (18446744073709551616 : Int))) ∧ ((((0 : Int) ≤ ((p * p) / (18446744073709551616 : Int))) ∧ (((p * p) / (18446744073709551616 : Int)) < (18446744073709551616 : Int))) ∧ ((((0 : Int) ≤ (0 : Int)) ∧ ((0 : Int) < (18446744073709551616 : Int))) ∧ (((0 : Int) ≤ (0 : Int)) ∧ ((0 : Int) < (18446744073709551616 : Int)))))) ∧ ((((0 : Int) ≤ ((((q * q) % (18446744073709551616 : Int)) * (3 : Int)) % (18446744073709551616 : Int))) ∧ (((((q * q) % (18446744073709551616 : Int)) * (3 : Int)) % (18446744073709551616 : Int)) < (18446744073709551616 : Int))) ∧ ((((0 : Int) ≤ (((((q * q) / (18446744073709551616 : Int)) * (3 : Int)) + ((((q * q) % (18446744073709551616 : Int)) * (3 : Int)) / (18446744073709551616 : Int))) % (18446744073709551616 : Int))) ∧ ((((((q * q) / (18446744073709551616 : Int)) * (3 : Int)) + ((((q * q) % (18446744073709551616 : Int)) * (3 : Int)) / (18446744073709551616 : Int))) % (18446744073709551616 : Int)) < (18446744073709551616 : Int))) ∧ ((((0 : Int) ≤ (((0 : Int) + (((((q * q) / (18446744073709551616 : Int)) * (3 : Int)) + ((((q * q) % (18446744073709551616 : Int)) * (3 : Int)) / (18446744073709551616 : Int))) / (18446744073709551616 : Int))) % (18446744073709551616 : Int))) ∧ ((((0 : Int) + (((((q * q) / (18446744073709551616 : Int)) * (3 : Int)) + ((((q * q) % (18446744073709551616 : Int)) * (3 : Int)) / (18446744073709551616 : Int))) / (18446744073709551616 : Int))) % (18446744073709551616 : Int)) < (18446744073709551616 : Int))) ∧ (((0 : Int) ≤ (((0 : Int) + (((0 : Int) + (((((q * q) / (18446744073709551616 : Int)) * (3 : Int)) + ((((q * q) % (18446744073709551616 : Int)) * (3 : Int)) / (18446744073709551616 : Int))) / (18446744073709551616 : Int))) / (18446744073709551616 : Int))) % (18446744073709551616 : Int))) ∧ ((((0 : Int) + (((0 : Int) + (((((q * q) / (18446744073709551616 : Int)) * (3 : Int)) + ((((q * q) % (18446744073709551616 : Int)) * (3 : Int)) / (18446744073709551616 : Int))) / (18446744073709551616 : Int))) / (18446744073709551616 : Int))) % (18446744073709551616 : Int)) < (18446744073709551616 : Int))))))) ∧ (pcond (Decidable.decide ((val4 ((((q * q) % (18446744073709551616 : Int)) * (3 : Int)) % (18446744073709551616 : Int)) (((((q * q) / (18446744073709551616 : Int)) * (3 : Int)) + ((((q * q) % (18446744073709551616 : Int)) * (3 : Int)) / (18446744073709551616 : Int))) % (18446744073709551616 : Int)) (((0 : Int) + (((((q * q) / (18446744073709551616 : Int)) * (3 : Int)) + ((((q * q) % (18446744073709551616 : Int)) * (3 : Int)) / (18446744073709551616 : Int))) / (18446744073709551616 : Int))) % (18446744073709551616 : Int)) (((0 : Int) + (((0 : Int) + (((((q * q) / (18446744073709551616 : Int)) * (3 : Int)) + ((((q * q) % (18446744073709551616 : Int)) * (3 : Int)) / (18446744073709551616 : Int))) / (18446744073709551616 : Int))) / (18446744073709551616 : Int))) % (18446744073709551616 : Int))) < (val4 ((p * p) % (18446744073709551616 : Int)) ((p * p) / (18446744073709551616 : Int)) (0 : Int) (0 : Int)))) (True ∧ (True ∧ (True ∧ (True ∧ (True ∧ (True ∧ ((D.v (Value.int IntKind.i64 (Int.sign p))) = (D.v (Value.int IntKind.i64 (sg p q)))))))))) (True ∧ (True ∧ (True ∧ (True ∧ (True ∧ (True ∧ ((D.v (Value.int IntKind.i64 (Int.sign q))) = (D.v (Value.int IntKind.i64 (sg p q))))))))))))))))))))) (by kernel_rfl) ?_
  obtain ⟨⟨hp1, hp2⟩, hq1, hq2⟩ := hpre
  obtain ⟨bp0, bp⟩ := sq_bound hp1 hp2
  obtain ⟨bq0, bq⟩ := sq_bound hq1 hq2
  simp only [true_and, and_true, and_self, IsInt_lit, IsBool_lit, IsStr_lit, Bool.not_eq_true', Bool.not_eq_false', Bool.not_true, Bool.not_false, Int.reduceLE, Int.reduceLT, Int.reduceNeg, Nat.le_refl, Int.le_refl, Nat.reduceLT, Nat.reduceLeDiff, Nat.reduceEqDiff, D.v.injEq, D.tup.injEq, D.agg.injEq, D.ro.injEq, List.cons.injEq, Value.int.injEq, Value.bool.injEq, pcond_true, pcond_false, NamelessL, Nameless, Nat.reduceMul, Nat.reduceAdd, Nat.zero_add, Int.toNat_natCast]
  have key : ∀ b, b = decide (3 * (q * q) < p * p) → pcond b (p.sign = sg p q) (q.sign = sg p q) := by
    intro b hb
    subst hb
    refine pcond_intro (fun h => ?_) (fun h => ?_) <;> simp [sg, h]
  have hk := fun b => key b
  clear key
  generalize sg p q = r at *
  generalize p.sign = ps at *
  generalize q.sign = qs at *
  generalize q * q = Q at *
  generalize p * p = P at *
  refine ⟨⟨hp1, hp2⟩, ⟨hq1, hq2⟩, ⟨⟨by omega, by omega⟩, by omega, by omega⟩, ⟨⟨⟨by omega, by omega⟩, by omega, by omega⟩, ⟨by omega, by omega⟩, ⟨by omega, by omega⟩, ⟨by omega, by omega⟩, by omega, by omega⟩, ?_⟩
  refine hk _ ?_
  rw [decide_eq_decide]; unfold val4; omega
def ent_signOf : Ent := fun ds => match ds with
  | [.v (.int .i64 p), .v (.int .i64 q)] => some (.v (.int .i64 (sg p q)), (-9223372036854775808 ≤ p ∧ p < 9223372036854775808) ∧ -9223372036854775808 ≤ q ∧ q < 9223372036854775808)
  | _ => none
theorem ent_signOf_ok : EntOk Try.prog 32 ent_signOf := by
  intro ds d c h hc; unfold ent_signOf at h; split at h
  · obtain ⟨rfl, rfl⟩ := pair_inj h; exact signOf_pure _ _ hc
  · cases h
theorem wrapid {a : Int} (h : -9223372036854775808 ≤ a ∧ a < 9223372036854775808) : IntKind.wrap IntKind.i64 a = a := wrap_i64_of h.1 h.2
theorem sign_pure (a b : Int) (hpre : (-9223372036854775808 ≤ a ∧ a < 9223372036854775808) ∧ -9223372036854775808 ≤ b ∧ b < 9223372036854775808) : PureJ Try.prog 11 [.agg [.v (.int .i64 a), .v (.int .i64 b)]] (.v (.int .i64 (sg a b))) := by
  refine pureJ_of_vcx (call := (addPure 32 ent_signOf noCalls)) (lp := fun _ => none) (N := 10) T_ok mixed (addPure_ok ent_signOf_ok noCalls_ok) Try.func11 rfl (by decide) (by kernel_rfl) (by kernel_rfl) (LpAll.none _) (by first | trivial | (simp only [NamelessL, Nameless, and_self, and_true, true_and]; done) | (simp [NamelessL, Nameless, u32s_nameless, namelessL_ints]; done)) (by first | trivial | (simp only [NamelessL, Nameless, and_self, and_true, true_and]; done) | (simp [NamelessL, Nameless, u32s_nameless, namelessL_ints]; done)) ?_
  refine of_eq (B := (True ∧ (True ∧ (True ∧ ((((0 : Nat) < (2 : Nat)) ∧ (IsInt IntKind.i64 (D.v (Value.int IntKind.i64 a)))) ∧ (True ∧ ((((1 : Nat) < (2 : Nat)) ∧ (IsInt IntKind.i64 (D.v (Value.int IntKind.i64 b)))) ∧ (((((-(9223372036854775808 : Int)) ≤ a) ∧ (a < (9223372036854775808 : Int))) ∧ (((-(9223372036854775808 : Int)) ≤ b) ∧ (b < (9223372036854775808 : Int)))) ∧ (True ∧ (True ∧ (True ∧ ((D.v (Value.int IntKind.i64 (sg a b))) = (D.v (Value.int IntKind.i64 (sg a b))))))))))))))) (by kernel_rfl) ?_
  simp only [true_and, and_true, and_self, IsInt_lit, IsBool_lit, IsStr_lit, Bool.not_eq_true', Bool.not_eq_false', Bool.not_true, Bool.not_false, Int.reduceLE, Int.reduceLT, Int.reduceNeg, Nat.le_refl, Int.le_refl, Nat.reduceLT, Nat.reduceLeDiff, Nat.reduceEqDiff, D.v.injEq, D.tup.injEq, D.agg.injEq, D.ro.injEq, List.cons.injEq, Value.int.injEq, Value.bool.injEq, pcond_true, pcond_false, NamelessL, Nameless, Nat.reduceMul, Nat.reduceAdd, Nat.zero_add, Int.toNat_natCast, wrapid hpre.1, wrapid hpre.2]
  exact hpre
def ent_sign : Ent := fun ds => match ds with
  | [.agg [.v (.int .i64 a), .v (.int .i64 b)]] => some (.v (.int .i64 (sg a b)), (-9223372036854775808 ≤ a ∧ a < 9223372036854775808) ∧ -9223372036854775808 ≤ b ∧ b < 9223372036854775808)
  | _ => none
theorem ent_sign_ok : EntOk Try.prog 11 ent_sign := by
  intro ds d c h hc; unfold ent_sign at h; split at h
  · obtain ⟨rfl, rfl⟩ := pair_inj h; exact sign_pure _ _ hc
  · cases h
theorem difference_pure (a b c d : Int) : PureJ Try.prog 39 [.agg [.v (.int .i64 a), .v (.int .i64 b)], .agg [.v (.int .i64 c), .v (.int .i64 d)]] (d_pair (IntKind.wrap IntKind.i64 (a - c)) (IntKind.wrap IntKind.i64 (b - d))) := by
  refine pureJ_of_vcx (call := noCalls) (lp := fun _ => none) (N := 10) T_ok mixed noCalls_ok Try.func39 rfl (by decide) (by kernel_rfl) (by kernel_rfl) (LpAll.none _) (by first | trivial | (simp only [NamelessL, Nameless, and_self, and_true, true_and]; done) | (simp [NamelessL, Nameless, u32s_nameless, namelessL_ints, d_pair]; done)) (by first | trivial | (simp only [NamelessL, Nameless, and_self, and_true, true_and]; done) | (simp [NamelessL, Nameless, u32s_nameless, namelessL_ints, d_pair]; done)) ?_
  refine of_eq (B := (True ∧ (True ∧ (True ∧ (True ∧ ((((0 : Nat) < (2 : Nat)) ∧ (IsInt IntKind.i64 (D.v (Value.int IntKind.i64 a)))) ∧ (True ∧ ((((0 : Nat) < (2 : Nat)) ∧ (IsInt IntKind.i64 (D.v (Value.int IntKind.i64 c)))) ∧ (True ∧ (True ∧ ((((1 : Nat) < (2 : Nat)) ∧ (IsInt IntKind.i64 (D.v (Value.int IntKind.i64 b)))) ∧ (True ∧ ((((1 : Nat) < (2 : Nat)) ∧ (IsInt IntKind.i64 (D.v (Value.int IntKind.i64 d)))) ∧ (True ∧ (True ∧ ((((2 : Nat) = (2 : Nat)) ∧ ((2 : Nat) ≤ (2 : Nat))) ∧ ((((2 : Nat) ≤ (2 : Nat)) ∧ True) ∧ ((True ∧ (True ∧ True)) ∧ ((D.agg [(D.v (Value.int IntKind.i64 (IntKind.wrap IntKind.i64 (a - c)))), (D.v (Value.int IntKind.i64 (IntKind.wrap IntKind.i64 (b - d))))]) = (D.agg [(D.v (Value.int IntKind.i64 (IntKind.wrap IntKind.i64 (a - c)))), (D.v (Value.int IntKind.i64 (IntKind.wrap IntKind.i64 (b - d))))])))))))))))))))))))) (by kernel_rfl) ?_
  simp only [true_and, and_true, and_self, IsInt_lit, IsBool_lit, IsStr_lit, Bool.not_eq_true', Bool.not_eq_false', Bool.not_true, Bool.not_false, Int.reduceLE, Int.reduceLT, Int.reduceNeg, Nat.le_refl, Int.le_refl, Nat.reduceLT, Nat.reduceLeDiff, Nat.reduceEqDiff, D.v.injEq, D.tup.injEq, D.agg.injEq, D.ro.injEq, List.cons.injEq, Value.int.injEq, Value.bool.injEq, pcond_true, pcond_false, NamelessL, Nameless, Nat.reduceMul, Nat.reduceAdd, Nat.zero_add, Int.toNat_natCast]
  repeat' (refine pcond_intro (fun _ => ?_) (fun _ => ?_))
  all_goals (try simp only [decide_eq_true_eq, decide_eq_false_iff_not, Bool.not_eq_true', Bool.not_eq_false'] at *)
  all_goals (first | (simp only [*, cond_true, cond_false, and_self]; done) | (simp []; done) | (simp [*]; done) | (simp []; omega) | (simp [*]; omega) | (simp_all []; done) | (rw [Bool.eq_iff_iff]; simp; omega) | (trace_state; fail))
def ent_difference : Ent := fun ds => match ds with
  | [.agg [.v (.int .i64 a), .v (.int .i64 b)], .agg [.v (.int .i64 c), .v (.int .i64 d)]] => some (d_pair (IntKind.wrap IntKind.i64 (a - c)) (IntKind.wrap IntKind.i64 (b - d)), True)
  | _ => none
theorem ent_difference_ok : EntOk Try.prog 39 ent_difference := by
  intro ds d c h hc; unfold ent_difference at h; split at h
  · obtain ⟨rfl, rfl⟩ := pair_inj h; exact difference_pure _ _ _ _
  · cases h
def L60 : Int := 1152921504606846976
def cmpS (a b c d : Int) : Int × Int := bif within a b 1152921504606846976 && within c d 1152921504606846976 then (sg (a - c) (b - d), 0) else (0, 1)
theorem within_iff {a b n : Int} : within a b n = true ↔ (-n ≤ a ∧ a ≤ n) ∧ -n ≤ b ∧ b ≤ n := by
  simp [within, wI]
theorem compare_pure (a b c d : Int) : PureJ Try.prog 25 [.agg [.v (.int .i64 a), .v (.int .i64 b)], .agg [.v (.int .i64 c), .v (.int .i64 d)]] (d_two (cmpS a b c d)) := by
  refine pureJ_of_vcx (call := (addPure 35 ent_within2 (addPure 39 ent_difference (addPure 11 ent_sign noCalls)))) (lp := fun _ => none) (N := 10) T_ok mixed (addPure_ok ent_within2_ok (addPure_ok ent_difference_ok (addPure_ok ent_sign_ok noCalls_ok))) Try.func25 rfl (by decide) (by kernel_rfl) (by kernel_rfl) (LpAll.none _) (by first | trivial | (simp only [NamelessL, Nameless, and_self, and_true, true_and]; done) | (simp [NamelessL, Nameless, u32s_nameless, namelessL_ints, d_two]; done)) (by first | trivial | (simp only [NamelessL, Nameless, and_self, and_true, true_and]; done) | (simp [NamelessL, Nameless, u32s_nameless, namelessL_ints, d_two]; done)) ?_
  refine of_eq (B := (True ∧ (True ∧ (True ∧ (True ∧ (((2 : Nat) ≤ (2 : Nat)) ∧ (((2 : Nat) ≤ (2 : Nat)) ∧ ((((4 : Nat) ≤ (16777216 : Nat)) ∧ ((2 : Nat) ≤ (9223372036854775807 : Nat))) ∧ (((True ∧ (((NamelessL [(D.v (Value.int IntKind.i64 a)), (D.v (Value.int IntKind.i64 b)), (D.v (Value.int IntKind.i64 c)), (D.v (Value.int IntKind.i64 d))]) ∧ (((0 : Nat) < (2 : Nat)) ∧ ((4 : Nat) ≤ (4 : Nat)))) ∧ True)) ∧ (((0 : Int) ≤ (1152921504606846976 : Int)) ∧ ((1152921504606846976 : Int) < (9223372036854775808 : Int)))) ∧ (True ∧ (pcond (!((within a b (1152921504606846976 : Int)) && (within c d (1152921504606846976 : Int)))) (True ∧ (True ∧ (True ∧ ((True ∧ (True ∧ True)) ∧ ((D.tup [(D.v (Value.int IntKind.i64 (0 : Int))), (D.v (Value.int IntKind.i64 (1 : Int)))]) = (D.tup [(D.v (Value.int IntKind.i64 (Prod.fst (cmpS a b c d)))), (D.v (Value.int IntKind.i64 (Prod.snd (cmpS a b c d))))])))))) (((2 : Nat) ≤ (2 : Nat)) ∧ (((2 : Nat) ≤ (2 : Nat)) ∧ (True ∧ (((((-(9223372036854775808 : Int)) ≤ (IntKind.wrap IntKind.i64 (a - c))) ∧ ((IntKind.wrap IntKind.i64 (a - c)) < (9223372036854775808 : Int))) ∧ (((-(9223372036854775808 : Int)) ≤ (IntKind.wrap IntKind.i64 (b - d))) ∧ ((IntKind.wrap IntKind.i64 (b - d)) < (9223372036854775808 : Int)))) ∧ (True ∧ (True ∧ (True ∧ ((True ∧ (True ∧ True)) ∧ ((D.tup [(D.v (Value.int IntKind.i64 (sg (IntKind.wrap IntKind.i64 (a - c)) (IntKind.wrap IntKind.i64 (b - d))))), (D.v (Value.int IntKind.i64 (0 : Int)))]) = (D.tup [(D.v (Value.int IntKind.i64 (Prod.fst (cmpS a b c d)))), (D.v (Value.int IntKind.i64 (Prod.snd (cmpS a b c d))))]))))))))))))))))))))) (by kernel_rfl) ?_
  simp only [true_and, and_true, and_self, IsInt_lit, IsBool_lit, IsStr_lit, Bool.not_eq_true', Bool.not_eq_false', Bool.not_true, Bool.not_false, Int.reduceLE, Int.reduceLT, Int.reduceNeg, Nat.le_refl, Int.le_refl, Nat.reduceLT, Nat.reduceLeDiff, Nat.reduceEqDiff, D.v.injEq, D.tup.injEq, D.agg.injEq, D.ro.injEq, List.cons.injEq, Value.int.injEq, Value.bool.injEq, pcond_true, pcond_false, NamelessL, Nameless, Nat.reduceMul, Nat.reduceAdd, Nat.zero_add, Int.toNat_natCast]
  repeat' (refine pcond_intro (fun _ => ?_) (fun _ => ?_))
  · rename_i h; simp only [Bool.not_eq_true'] at h; simp [cmpS, h]
  · rename_i h
    simp only [Bool.not_eq_false', Bool.and_eq_true] at h
    have h1 := within_iff.1 h.1
    have h2 := within_iff.1 h.2
    rw [wrap_i64_of (by omega) (by omega), wrap_i64_of (by omega) (by omega)]
    refine ⟨⟨⟨by omega, by omega⟩, by omega, by omega⟩, ?_⟩
    simp [cmpS, h]
def ent_compare : Ent := fun ds => match ds with
  | [.agg [.v (.int .i64 a), .v (.int .i64 b)], .agg [.v (.int .i64 c), .v (.int .i64 d)]] => some (d_two (cmpS a b c d), True)
  | _ => none
theorem ent_compare_ok : EntOk Try.prog 25 ent_compare := by
  intro ds d c h hc; unfold ent_compare at h; split at h
  · obtain ⟨rfl, rfl⟩ := pair_inj h; exact compare_pure _ _ _ _
  · cases h
def addS (a b c d : Int) : Int × Int × Int := bif within a b 1152921504606846976 && within c d 1152921504606846976 then lim (a + c) (b + d) else (0, 0, 1)
def subS (a b c d : Int) : Int × Int × Int := bif within a b 1152921504606846976 && within c d 1152921504606846976 then lim (a - c) (b - d) else (0, 0, 1)
def conjS (a b : Int) : Int × Int × Int := bif within a b 1152921504606846976 then (a, -b, 0) else (0, 0, 1)
theorem add_pure (a b c d : Int) : PureJ Try.prog 13 [.agg [.v (.int .i64 a), .v (.int .i64 b)], .agg [.v (.int .i64 c), .v (.int .i64 d)]] (d_tri (addS a b c d)) := by
  refine pureJ_of_vcx (call := (addPure 35 ent_within2 (addPure 36 ent_limited noCalls))) (lp := fun _ => none) (N := 10) T_ok mixed (addPure_ok ent_within2_ok (addPure_ok ent_limited_ok noCalls_ok)) Try.func13 rfl (by decide) (by kernel_rfl) (by kernel_rfl) (LpAll.none _) (by first | trivial | (simp only [NamelessL, Nameless, and_self, and_true, true_and]; done) | (simp [NamelessL, Nameless, u32s_nameless, namelessL_ints, d_tri]; done)) (by first | trivial | (simp only [NamelessL, Nameless, and_self, and_true, true_and]; done) | (simp [NamelessL, Nameless, u32s_nameless, namelessL_ints, d_tri]; done)) ?_
  refine of_eq (B := (True ∧ (True ∧ (True ∧ (True ∧ (((2 : Nat) ≤ (2 : Nat)) ∧ (((2 : Nat) ≤ (2 : Nat)) ∧ ((((4 : Nat) ≤ (16777216 : Nat)) ∧ ((2 : Nat) ≤ (9223372036854775807 : Nat))) ∧ (((True ∧ (((NamelessL [(D.v (Value.int IntKind.i64 a)), (D.v (Value.int IntKind.i64 b)), (D.v (Value.int IntKind.i64 c)), (D.v (Value.int IntKind.i64 d))]) ∧ (((0 : Nat) < (2 : Nat)) ∧ ((4 : Nat) ≤ (4 : Nat)))) ∧ True)) ∧ (((0 : Int) ≤ (1152921504606846976 : Int)) ∧ ((1152921504606846976 : Int) < (9223372036854775808 : Int)))) ∧ (True ∧ (pcond (!((within a b (1152921504606846976 : Int)) && (within c d (1152921504606846976 : Int)))) (True ∧ ((((2 : Nat) = (2 : Nat)) ∧ ((2 : Nat) ≤ (2 : Nat))) ∧ (True ∧ ((((2 : Nat) ≤ (2 : Nat)) ∧ True) ∧ (((True ∧ (True ∧ True)) ∧ (True ∧ True)) ∧ ((D.tup [(D.agg [(D.v (Value.int IntKind.i64 (0 : Int))), (D.v (Value.int IntKind.i64 (0 : Int)))]), (D.v (Value.int IntKind.i64 (1 : Int)))]) = (D.tup [(D.agg [(D.v (Value.int IntKind.i64 (Prod.fst (addS a b c d)))), (D.v (Value.int IntKind.i64 (Prod.fst (Prod.snd (addS a b c d)))))]), (D.v (Value.int IntKind.i64 (Prod.snd (Prod.snd (addS a b c d)))))]))))))) (True ∧ ((((0 : Nat) < (2 : Nat)) ∧ (IsInt IntKind.i64 (D.v (Value.int IntKind.i64 a)))) ∧ (True ∧ ((((0 : Nat) < (2 : Nat)) ∧ (IsInt IntKind.i64 (D.v (Value.int IntKind.i64 c)))) ∧ (True ∧ (True ∧ ((((1 : Nat) < (2 : Nat)) ∧ (IsInt IntKind.i64 (D.v (Value.int IntKind.i64 b)))) ∧ (True ∧ ((((1 : Nat) < (2 : Nat)) ∧ (IsInt IntKind.i64 (D.v (Value.int IntKind.i64 d)))) ∧ (True ∧ (True ∧ (True ∧ (True ∧ (True ∧ ((((2 : Nat) = (2 : Nat)) ∧ ((2 : Nat) ≤ (2 : Nat))) ∧ (True ∧ ((((2 : Nat) ≤ (2 : Nat)) ∧ True) ∧ (((True ∧ (True ∧ True)) ∧ (True ∧ True)) ∧ ((D.tup [(D.agg [(D.v (Value.int IntKind.i64 (Prod.fst (lim (IntKind.wrap IntKind.i64 (a + c)) (IntKind.wrap IntKind.i64 (b + d)))))), (D.v (Value.int IntKind.i64 (Prod.fst (Prod.snd (lim (IntKind.wrap IntKind.i64 (a + c)) (IntKind.wrap IntKind.i64 (b + d)))))))]), (D.v (Value.int IntKind.i64 (Prod.snd (Prod.snd (lim (IntKind.wrap IntKind.i64 (a + c)) (IntKind.wrap IntKind.i64 (b + d)))))))]) = (D.tup [(D.agg [(D.v (Value.int IntKind.i64 (Prod.fst (addS a b c d)))), (D.v (Value.int IntKind.i64 (Prod.fst (Prod.snd (addS a b c d)))))]), (D.v (Value.int IntKind.i64 (Prod.snd (Prod.snd (addS a b c d)))))]))))))))))))))))))))))))))))))) (by kernel_rfl) ?_
  simp only [true_and, and_true, and_self, IsInt_lit, IsBool_lit, IsStr_lit, Bool.not_eq_true', Bool.not_eq_false', Bool.not_true, Bool.not_false, Int.reduceLE, Int.reduceLT, Int.reduceNeg, Nat.le_refl, Int.le_refl, Nat.reduceLT, Nat.reduceLeDiff, Nat.reduceEqDiff, D.v.injEq, D.tup.injEq, D.agg.injEq, D.ro.injEq, List.cons.injEq, Value.int.injEq, Value.bool.injEq, pcond_true, pcond_false, NamelessL, Nameless, Nat.reduceMul, Nat.reduceAdd, Nat.zero_add, Int.toNat_natCast]
  repeat' (refine pcond_intro (fun _ => ?_) (fun _ => ?_))
  · rename_i h; simp only [Bool.not_eq_true'] at h; simp [addS, h]
  · rename_i h
    simp only [Bool.not_eq_false', Bool.and_eq_true] at h
    have h1 := within_iff.1 h.1
    have h2 := within_iff.1 h.2
    rw [wrap_i64_of (by omega) (by omega), wrap_i64_of (by omega) (by omega)]
    simp [addS, h]
def ent_add : Ent := fun ds => match ds with
  | [.agg [.v (.int .i64 a), .v (.int .i64 b)], .agg [.v (.int .i64 c), .v (.int .i64 d)]] => some (d_tri (addS a b c d), True)
  | _ => none
theorem ent_add_ok : EntOk Try.prog 13 ent_add := by
  intro ds d c h hc; unfold ent_add at h; split at h
  · obtain ⟨rfl, rfl⟩ := pair_inj h; exact add_pure _ _ _ _
  · cases h
theorem sub_pure (a b c d : Int) : PureJ Try.prog 15 [.agg [.v (.int .i64 a), .v (.int .i64 b)], .agg [.v (.int .i64 c), .v (.int .i64 d)]] (d_tri (subS a b c d)) := by
  refine pureJ_of_vcx (call := (addPure 35 ent_within2 (addPure 39 ent_difference (addPure 36 ent_limited noCalls)))) (lp := fun _ => none) (N := 10) T_ok mixed (addPure_ok ent_within2_ok (addPure_ok ent_difference_ok (addPure_ok ent_limited_ok noCalls_ok))) Try.func15 rfl (by decide) (by kernel_rfl) (by kernel_rfl) (LpAll.none _) (by first | trivial | (simp only [NamelessL, Nameless, and_self, and_true, true_and]; done) | (simp [NamelessL, Nameless, u32s_nameless, namelessL_ints, d_tri]; done)) (by first | trivial | (simp only [NamelessL, Nameless, and_self, and_true, true_and]; done) | (simp [NamelessL, Nameless, u32s_nameless, namelessL_ints, d_tri]; done)) ?_
  refine of_eq (B := (True ∧ (True ∧ (True ∧ (True ∧ (((2 : Nat) ≤ (2 : Nat)) ∧ (((2 : Nat) ≤ (2 : Nat)) ∧ ((((4 : Nat) ≤ (16777216 : Nat)) ∧ ((2 : Nat) ≤ (9223372036854775807 : Nat))) ∧ (((True ∧ (((NamelessL [(D.v (Value.int IntKind.i64 a)), (D.v (Value.int IntKind.i64 b)), (D.v (Value.int IntKind.i64 c)), (D.v (Value.int IntKind.i64 d))]) ∧ (((0 : Nat) < (2 : Nat)) ∧ ((4 : Nat) ≤ (4 : Nat)))) ∧ True)) ∧ (((0 : Int) ≤ (1152921504606846976 : Int)) ∧ ((1152921504606846976 : Int) < (9223372036854775808 : Int)))) ∧ (True ∧ (pcond (!((within a b (1152921504606846976 : Int)) && (within c d (1152921504606846976 : Int)))) (True ∧ ((((2 : Nat) = (2 : Nat)) ∧ ((2 : Nat) ≤ (2 : Nat))) ∧ (True ∧ ((((2 : Nat) ≤ (2 : Nat)) ∧ True) ∧ (((True ∧ (True ∧ True)) ∧ (True ∧ True)) ∧ ((D.tup [(D.agg [(D.v (Value.int IntKind.i64 (0 : Int))), (D.v (Value.int IntKind.i64 (0 : Int)))]), (D.v (Value.int IntKind.i64 (1 : Int)))]) = (D.tup [(D.agg [(D.v (Value.int IntKind.i64 (Prod.fst (subS a b c d)))), (D.v (Value.int IntKind.i64 (Prod.fst (Prod.snd (subS a b c d)))))]), (D.v (Value.int IntKind.i64 (Prod.snd (Prod.snd (subS a b c d)))))]))))))) (((2 : Nat) ≤ (2 : Nat)) ∧ (((2 : Nat) ≤ (2 : Nat)) ∧ (True ∧ (True ∧ (True ∧ (True ∧ ((((2 : Nat) = (2 : Nat)) ∧ ((2 : Nat) ≤ (2 : Nat))) ∧ (True ∧ ((((2 : Nat) ≤ (2 : Nat)) ∧ True) ∧ (((True ∧ (True ∧ True)) ∧ (True ∧ True)) ∧ ((D.tup [(D.agg [(D.v (Value.int IntKind.i64 (Prod.fst (lim (IntKind.wrap IntKind.i64 (a - c)) (IntKind.wrap IntKind.i64 (b - d)))))), (D.v (Value.int IntKind.i64 (Prod.fst (Prod.snd (lim (IntKind.wrap IntKind.i64 (a - c)) (IntKind.wrap IntKind.i64 (b - d)))))))]), (D.v (Value.int IntKind.i64 (Prod.snd (Prod.snd (lim (IntKind.wrap IntKind.i64 (a - c)) (IntKind.wrap IntKind.i64 (b - d)))))))]) = (D.tup [(D.agg [(D.v (Value.int IntKind.i64 (Prod.fst (subS a b c d)))), (D.v (Value.int IntKind.i64 (Prod.fst (Prod.snd (subS a b c d)))))]), (D.v (Value.int IntKind.i64 (Prod.snd (Prod.snd (subS a b c d)))))]))))))))))))))))))))))) (by kernel_rfl) ?_
  simp only [true_and, and_true, and_self, IsInt_lit, IsBool_lit, IsStr_lit, Bool.not_eq_true', Bool.not_eq_false', Bool.not_true, Bool.not_false, Int.reduceLE, Int.reduceLT, Int.reduceNeg, Nat.le_refl, Int.le_refl, Nat.reduceLT, Nat.reduceLeDiff, Nat.reduceEqDiff, D.v.injEq, D.tup.injEq, D.agg.injEq, D.ro.injEq, List.cons.injEq, Value.int.injEq, Value.bool.injEq, pcond_true, pcond_false, NamelessL, Nameless, Nat.reduceMul, Nat.reduceAdd, Nat.zero_add, Int.toNat_natCast]
  repeat' (refine pcond_intro (fun _ => ?_) (fun _ => ?_))
  · rename_i h; simp only [Bool.not_eq_true'] at h; simp [subS, h]
  · rename_i h
    simp only [Bool.not_eq_false', Bool.and_eq_true] at h
    have h1 := within_iff.1 h.1
    have h2 := within_iff.1 h.2
    rw [wrap_i64_of (by omega) (by omega), wrap_i64_of (by omega) (by omega)]
    simp [subS, h]
def ent_sub : Ent := fun ds => match ds with
  | [.agg [.v (.int .i64 a), .v (.int .i64 b)], .agg [.v (.int .i64 c), .v (.int .i64 d)]] => some (d_tri (subS a b c d), True)
  | _ => none
theorem ent_sub_ok : EntOk Try.prog 15 ent_sub := by
  intro ds d c h hc; unfold ent_sub at h; split at h
  · obtain ⟨rfl, rfl⟩ := pair_inj h; exact sub_pure _ _ _ _
  · cases h
theorem conj_pure (a b : Int) : PureJ Try.prog 19 [.agg [.v (.int .i64 a), .v (.int .i64 b)]] (d_tri (conjS a b)) := by
  refine pureJ_of_vcx (call := (addPure 35 ent_within1 noCalls)) (lp := fun _ => none) (N := 10) T_ok mixed (addPure_ok ent_within1_ok noCalls_ok) Try.func19 rfl (by decide) (by kernel_rfl) (by kernel_rfl) (LpAll.none _) (by first | trivial | (simp only [NamelessL, Nameless, and_self, and_true, true_and]; done) | (simp [NamelessL, Nameless, u32s_nameless, namelessL_ints, d_tri]; done)) (by first | trivial | (simp only [NamelessL, Nameless, and_self, and_true, true_and]; done) | (simp [NamelessL, Nameless, u32s_nameless, namelessL_ints, d_tri]; done)) ?_
  refine of_eq (B := (True ∧ (True ∧ (True ∧ (((2 : Nat) ≤ (2 : Nat)) ∧ ((((2 : Nat) ≤ (16777216 : Nat)) ∧ ((1 : Nat) ≤ (9223372036854775807 : Nat))) ∧ (((True ∧ (((NamelessL [(D.v (Value.int IntKind.i64 a)), (D.v (Value.int IntKind.i64 b))]) ∧ (((0 : Nat) < (2 : Nat)) ∧ ((2 : Nat) ≤ (2 : Nat)))) ∧ True)) ∧ (((0 : Int) ≤ (1152921504606846976 : Int)) ∧ ((1152921504606846976 : Int) < (9223372036854775808 : Int)))) ∧ (True ∧ (pcond (!(within a b (1152921504606846976 : Int))) (True ∧ ((((2 : Nat) = (2 : Nat)) ∧ ((2 : Nat) ≤ (2 : Nat))) ∧ (True ∧ ((((2 : Nat) ≤ (2 : Nat)) ∧ True) ∧ (((True ∧ (True ∧ True)) ∧ (True ∧ True)) ∧ ((D.tup [(D.agg [(D.v (Value.int IntKind.i64 (0 : Int))), (D.v (Value.int IntKind.i64 (0 : Int)))]), (D.v (Value.int IntKind.i64 (1 : Int)))]) = (D.tup [(D.agg [(D.v (Value.int IntKind.i64 (Prod.fst (conjS a b)))), (D.v (Value.int IntKind.i64 (Prod.fst (Prod.snd (conjS a b)))))]), (D.v (Value.int IntKind.i64 (Prod.snd (Prod.snd (conjS a b)))))]))))))) (True ∧ ((((0 : Nat) < (2 : Nat)) ∧ (IsInt IntKind.i64 (D.v (Value.int IntKind.i64 a)))) ∧ (True ∧ ((((1 : Nat) < (2 : Nat)) ∧ (IsInt IntKind.i64 (D.v (Value.int IntKind.i64 b)))) ∧ (True ∧ (True ∧ ((((2 : Nat) = (2 : Nat)) ∧ ((2 : Nat) ≤ (2 : Nat))) ∧ (True ∧ ((((2 : Nat) ≤ (2 : Nat)) ∧ True) ∧ (((True ∧ (True ∧ True)) ∧ (True ∧ True)) ∧ ((D.tup [(D.agg [(D.v (Value.int IntKind.i64 a)), (D.v (Value.int IntKind.i64 (IntKind.wrap IntKind.i64 ((0 : Int) - b))))]), (D.v (Value.int IntKind.i64 (0 : Int)))]) = (D.tup [(D.agg [(D.v (Value.int IntKind.i64 (Prod.fst (conjS a b)))), (D.v (Value.int IntKind.i64 (Prod.fst (Prod.snd (conjS a b)))))]), (D.v (Value.int IntKind.i64 (Prod.snd (Prod.snd (conjS a b)))))]))))))))))))))))))))) (by kernel_rfl) ?_
  simp only [true_and, and_true, and_self, IsInt_lit, IsBool_lit, IsStr_lit, Bool.not_eq_true', Bool.not_eq_false', Bool.not_true, Bool.not_false, Int.reduceLE, Int.reduceLT, Int.reduceNeg, Nat.le_refl, Int.le_refl, Nat.reduceLT, Nat.reduceLeDiff, Nat.reduceEqDiff, D.v.injEq, D.tup.injEq, D.agg.injEq, D.ro.injEq, List.cons.injEq, Value.int.injEq, Value.bool.injEq, pcond_true, pcond_false, NamelessL, Nameless, Nat.reduceMul, Nat.reduceAdd, Nat.zero_add, Int.toNat_natCast]
  repeat' (refine pcond_intro (fun _ => ?_) (fun _ => ?_))
  · rename_i h; simp only [Bool.not_eq_true'] at h; simp [conjS, h]
  · rename_i h
    simp only [Bool.not_eq_false'] at h
    have h1 := within_iff.1 h
    rw [wrap_i64_of (by omega) (by omega)]
    simp [conjS, h]
def ent_conj : Ent := fun ds => match ds with
  | [.agg [.v (.int .i64 a), .v (.int .i64 b)]] => some (d_tri (conjS a b), True)
  | _ => none
theorem ent_conj_ok : EntOk Try.prog 19 ent_conj := by
  intro ds d c h hc; unfold ent_conj at h; split at h
  · obtain ⟨rfl, rfl⟩ := pair_inj h; exact conj_pure _ _
  · cases h
theorem small_pure (a b : Int) : PureJ Try.prog 29 [.agg [.v (.int .i64 a), .v (.int .i64 b)]] (d_pair (a.tmod 1048576) (b.tmod 1048576)) := by
  refine pureJ_of_vcx (call := noCalls) (lp := fun _ => none) (N := 10) T_ok mixed noCalls_ok Try.func29 rfl (by decide) (by kernel_rfl) (by kernel_rfl) (LpAll.none _) (by first | trivial | (simp only [NamelessL, Nameless, and_self, and_true, true_and]; done) | (simp [NamelessL, Nameless, u32s_nameless, namelessL_ints, d_pair]; done)) (by first | trivial | (simp only [NamelessL, Nameless, and_self, and_true, true_and]; done) | (simp [NamelessL, Nameless, u32s_nameless, namelessL_ints, d_pair]; done)) ?_
  refine of_eq (B := (True ∧ (True ∧ (True ∧ ((((0 : Nat) < (2 : Nat)) ∧ (IsInt IntKind.i64 (D.v (Value.int IntKind.i64 a)))) ∧ (((1048576 : Int) ≠ (0 : Int)) ∧ (True ∧ ((((1 : Nat) < (2 : Nat)) ∧ (IsInt IntKind.i64 (D.v (Value.int IntKind.i64 b)))) ∧ (((1048576 : Int) ≠ (0 : Int)) ∧ (True ∧ ((((2 : Nat) = (2 : Nat)) ∧ ((2 : Nat) ≤ (2 : Nat))) ∧ ((((2 : Nat) ≤ (2 : Nat)) ∧ True) ∧ ((True ∧ (True ∧ True)) ∧ ((D.agg [(D.v (Value.int IntKind.i64 (Int.tmod a (1048576 : Int)))), (D.v (Value.int IntKind.i64 (Int.tmod b (1048576 : Int))))]) = (D.agg [(D.v (Value.int IntKind.i64 (Int.tmod a (1048576 : Int)))), (D.v (Value.int IntKind.i64 (Int.tmod b (1048576 : Int))))]))))))))))))))) (by kernel_rfl) ?_
  simp only [true_and, and_true, and_self, IsInt_lit, IsBool_lit, IsStr_lit, Bool.not_eq_true', Bool.not_eq_false', Bool.not_true, Bool.not_false, Int.reduceLE, Int.reduceLT, Int.reduceNeg, Nat.le_refl, Int.le_refl, Nat.reduceLT, Nat.reduceLeDiff, Nat.reduceEqDiff, D.v.injEq, D.tup.injEq, D.agg.injEq, D.ro.injEq, List.cons.injEq, Value.int.injEq, Value.bool.injEq, pcond_true, pcond_false, NamelessL, Nameless, Nat.reduceMul, Nat.reduceAdd, Nat.zero_add, Int.toNat_natCast]
  decide
def ent_small : Ent := fun ds => match ds with
  | [.agg [.v (.int .i64 a), .v (.int .i64 b)]] => some (d_pair (a.tmod 1048576) (b.tmod 1048576), True)
  | _ => none
theorem ent_small_ok : EntOk Try.prog 29 ent_small := by
  intro ds d c h hc; unfold ent_small at h; split at h
  · obtain ⟨rfl, rfl⟩ := pair_inj h; exact small_pure _ _
  · cases h
end Go.Proofs.Ytdaeefbljdadfaa
