/- The specification's products and signs. -/
import Derived.Test.YtdaeefbljdadfaaRd
import Derived.Test.YtdaeefbljdadfaaSb
import Derived.Test.YtdaeefbljdadfaaSm
import Derived.Test.YtdaeefbljdadfaaSe
namespace Go.Proofs.Ytdaeefbljdadfaa
open Go.VD
set_option linter.unusedVariables false
set_option linter.unusedSimpArgs false
set_option maxRecDepth 100000

theorem ofL_mul_len (v w : Int) : (ofL (v * w)).length ≤ (ofL v).length + (ofL w).length := by
  unfold ofL
  rw [Int.natAbs_mul]
  have := dg_mul_len (dg_dig v.natAbs) (dg_dig w.natAbs)
  rwa [nv_dg, nv_dg] at this
theorem sign_three (p : Int) : p.sign = -1 ∨ p.sign = 0 ∨ p.sign = 1 := by
  rcases Int.lt_trichotomy p 0 with h | h | h
  · exact .inl (Int.sign_eq_neg_one_of_neg h)
  · subst h; exact .inr (.inl rfl)
  · exact .inr (.inr (Int.sign_eq_one_of_pos h))
theorem cmpZ_three (a b : Int) : cmpZ a b = -1 ∨ cmpZ a b = 0 ∨ cmpZ a b = 1 := by
  unfold cmpZ
  split
  · exact .inl rfl
  · split
    · exact .inr (.inr rfl)
    · exact .inr (.inl rfl)
theorem sg_cases (p q : Int) (h1 : -PB < q) (h2 : q < PB) : (sg 0 q = q.sign ∧ (p.sign = q.sign → sg p q = p.sign)) ∧ sg p 0 = p.sign ∧ (p ≠ 0 → ¬ p.sign = q.sign → q ≠ 0 → sg p q = p.sign * cmpZ (p * p) (3 * (q * q))) := by
  refine ⟨⟨?_, fun h => ?_⟩, ?_, fun hp hn hq => ?_⟩
  · unfold sg
    by_cases h : q = 0
    · subst h; rfl
    · have := sq_pos h
      have : ¬ 3 * (q * q) < 0 * 0 := by omega
      simp only [this, decide_false, cond_false]
  · unfold sg
    by_cases h3 : 3 * (q * q) < p * p
    · simp only [h3, decide_true, cond_true]
    · simp only [h3, decide_false, cond_false, h]
  · unfold sg
    by_cases h : p = 0
    · subst h; rfl
    · have := sq_pos h
      have : 3 * (0 * 0) < p * p := by omega
      simp only [this, decide_true, cond_true]
  · unfold sg cmpZ
    rcases Int.lt_trichotomy (3 * (q * q)) (p * p) with h | h | h
    · have n : ¬ p * p < 3 * (q * q) := by omega
      simp only [h, n, decide_true, cond_true, if_true, if_false, Int.mul_one]
    · exact absurd (irrational h1 h2 h.symm) hq
    · have n : ¬ 3 * (q * q) < p * p := by omega
      simp only [h, n, decide_false, cond_false, if_true]
      have hp3 : p.sign ≠ 0 := fun h => hp (Int.sign_eq_zero_iff_zero.1 h)
      have hq3 : q.sign ≠ 0 := fun h => hq (Int.sign_eq_zero_iff_zero.1 h)
      have h4 := sign_three p
      have h5 := sign_three q
      generalize p.sign = s at *
      generalize q.sign = t at *
      rcases h4 with rfl | rfl | rfl <;> rcases h5 with rfl | rfl | rfl <;> omega
theorem Mul_pure (xn : Bool) (xs : List Nat) (yn : Bool) (ys : List Nat) (hpre : (Good xn xs ∧ xs.length ≤ 100) ∧ Good yn ys ∧ ys.length ≤ 100) : PureJ Try.prog 63 [.agg [.v (.bool xn), .ro xs.length (u32s xs)], .agg [.v (.bool yn), .ro ys.length (u32s ys)]] (.tup [d_int (decide (iv xn xs * iv yn ys < 0)) (ofL (iv xn xs * iv yn ys)), .v (.int .i64 0)]) := by
  refine pureJ_of_vcx (call := (addPure 61 ent_Valid (addPure 71 ent_times (addPure 52 ent_made (addPure 70 ent_result noCalls))))) (lp := fun _ => none) (N := 10) T_ok mixed (addPure_ok ent_Valid_ok (addPure_ok ent_times_ok (addPure_ok ent_made_ok (addPure_ok ent_result_ok noCalls_ok)))) Try.func63 rfl (by decide) (by kernel_rfl) (by kernel_rfl) (LpAll.none _) (by first | trivial | (simp only [NamelessL, Nameless, and_self, and_true, true_and]; done) | (simp [NamelessL, Nameless, u32s_nameless, namelessL_ints, d_int]; done)) (by first | trivial | (simp only [NamelessL, Nameless, and_self, and_true, true_and]; done) | (simp [NamelessL, Nameless, u32s_nameless, namelessL_ints, d_int]; done)) ?_
  refine of_eq (B := (True ∧ (True ∧ (True ∧ (True ∧ (((2 : Nat) ≤ (2 : Nat)) ∧ (((((u32s xs) = (u32s (unu (u32s xs)))) ∧ ((List.length xs) = (List.length (unu (u32s xs))))) ∧ ((List.length (unu (u32s xs))) ≤ (1000000000000 : Nat))) ∧ (True ∧ (True ∧ (pcond (!(validL xn (unu (u32s xs)))) (True ∧ (True ∧ ((((2 : Nat) = (2 : Nat)) ∧ ((2 : Nat) ≤ (2 : Nat))) ∧ (True ∧ ((((2 : Nat) ≤ (2 : Nat)) ∧ True) ∧ (((True ∧ (True ∧ True)) ∧ (True ∧ True)) ∧ ((D.tup [(D.agg [(D.v (Value.bool Bool.false)), (D.v (Value.slice (Option.none) (0 : Nat) (0 : Nat)))]), (D.v (Value.int IntKind.i64 (1 : Int)))]) = (D.tup [(D.agg [(D.v (Value.bool (Decidable.decide (((iv xn xs) * (iv yn ys)) < (0 : Int))))), (D.ro (List.length (ofL ((iv xn xs) * (iv yn ys)))) (u32s (ofL ((iv xn xs) * (iv yn ys)))))]), (D.v (Value.int IntKind.i64 (0 : Int)))])))))))) (((2 : Nat) ≤ (2 : Nat)) ∧ (((((u32s ys) = (u32s (unu (u32s ys)))) ∧ ((List.length ys) = (List.length (unu (u32s ys))))) ∧ ((List.length (unu (u32s ys))) ≤ (1000000000000 : Nat))) ∧ (True ∧ (True ∧ (pcond (!(validL yn (unu (u32s ys)))) (True ∧ ((((2 : Nat) = (2 : Nat)) ∧ ((2 : Nat) ≤ (2 : Nat))) ∧ (True ∧ ((((2 : Nat) ≤ (2 : Nat)) ∧ True) ∧ (((True ∧ (True ∧ True)) ∧ (True ∧ True)) ∧ ((D.tup [(D.agg [(D.v (Value.bool Bool.false)), (D.v (Value.slice (Option.none) (0 : Nat) (0 : Nat)))]), (D.v (Value.int IntKind.i64 (1 : Int)))]) = (D.tup [(D.agg [(D.v (Value.bool (Decidable.decide (((iv xn xs) * (iv yn ys)) < (0 : Int))))), (D.ro (List.length (ofL ((iv xn xs) * (iv yn ys)))) (u32s (ofL ((iv xn xs) * (iv yn ys)))))]), (D.v (Value.int IntKind.i64 (0 : Int)))]))))))) (True ∧ ((((0 : Nat) < (2 : Nat)) ∧ (IsBool (D.v (Value.bool xn)))) ∧ (True ∧ ((((0 : Nat) < (2 : Nat)) ∧ (IsBool (D.v (Value.bool yn)))) ∧ (True ∧ (True ∧ (((1 : Nat) < (2 : Nat)) ∧ (True ∧ (((1 : Nat) < (2 : Nat)) ∧ (((((u32s ys) = (u32s (unu (u32s ys)))) ∧ ((List.length ys) = (List.length (unu (u32s ys))))) ∧ ((((u32s xs) = (u32s (unu (u32s xs)))) ∧ ((List.length xs) = (List.length (unu (u32s xs))))) ∧ (((List.length (unu (u32s xs))) ≤ (400000 : Nat)) ∧ (((List.length (unu (u32s ys))) ≤ (400000 : Nat)) ∧ ((Dig (unu (u32s xs))) ∧ (Dig (unu (u32s ys)))))))) ∧ (((((u32s (dg ((nv (unu (u32s xs))) * (nv (unu (u32s ys)))))) = (u32s (unu (u32s (dg ((nv (unu (u32s xs))) * (nv (unu (u32s ys))))))))) ∧ ((List.length (dg ((nv (unu (u32s xs))) * (nv (unu (u32s ys)))))) = (List.length (unu (u32s (dg ((nv (unu (u32s xs))) * (nv (unu (u32s ys)))))))))) ∧ ((List.length (unu (u32s (dg ((nv (unu (u32s xs))) * (nv (unu (u32s ys)))))))) ≤ (1000000 : Nat))) ∧ (((((u32s (trimL (unu (u32s (dg ((nv (unu (u32s xs))) * (nv (unu (u32s ys))))))))) = (u32s (unu (u32s (trimL (unu (u32s (dg ((nv (unu (u32s xs))) * (nv (unu (u32s ys)))))))))))) ∧ ((List.length (trimL (unu (u32s (dg ((nv (unu (u32s xs))) * (nv (unu (u32s ys))))))))) = (List.length (unu (u32s (trimL (unu (u32s (dg ((nv (unu (u32s xs))) * (nv (unu (u32s ys))))))))))))) ∧ ((List.length (unu (u32s (trimL (unu (u32s (dg ((nv (unu (u32s xs))) * (nv (unu (u32s ys))))))))))) ≤ (400 : Nat))) ∧ (True ∧ (True ∧ ((((2 : Nat) = (2 : Nat)) ∧ ((2 : Nat) ≤ (2 : Nat))) ∧ (True ∧ ((Bool.true = Bool.true) ∧ ((((2 : Nat) ≤ (2 : Nat)) ∧ True) ∧ (((True ∧ (True ∧ True)) ∧ (True ∧ True)) ∧ ((D.tup [(D.agg [(D.v (Value.bool (madeN (!(xn == yn)) (unu (u32s (dg ((nv (unu (u32s xs))) * (nv (unu (u32s ys)))))))))), (D.ro (List.length (unu (u32s (trimL (unu (u32s (dg ((nv (unu (u32s xs))) * (nv (unu (u32s ys))))))))))) (u32s (unu (u32s (trimL (unu (u32s (dg ((nv (unu (u32s xs))) * (nv (unu (u32s ys))))))))))))]), (D.v (Value.int IntKind.i64 (0 : Int)))]) = (D.tup [(D.agg [(D.v (Value.bool (Decidable.decide (((iv xn xs) * (iv yn ys)) < (0 : Int))))), (D.ro (List.length (ofL ((iv xn xs) * (iv yn ys)))) (u32s (ofL ((iv xn xs) * (iv yn ys)))))]), (D.v (Value.int IntKind.i64 (0 : Int)))])))))))))))))))))))))))))))))))))))) (by kernel_rfl) ?_
  simp only [true_and, and_true, and_self, IsInt_lit, IsBool_lit, IsStr_lit, Bool.not_eq_true', Bool.not_eq_false', Bool.not_true, Bool.not_false, Int.reduceLE, Int.reduceLT, Int.reduceNeg, Nat.le_refl, Int.le_refl, Nat.reduceLT, Nat.reduceLeDiff, Nat.reduceEqDiff, D.v.injEq, D.tup.injEq, D.agg.injEq, D.ro.injEq, List.cons.injEq, Value.int.injEq, Value.bool.injEq, pcond_true, pcond_false, NamelessL, Nameless, Nat.reduceMul, Nat.reduceAdd, Nat.zero_add, Int.toNat_natCast, unu_u32s]
  obtain ⟨⟨gx, lx⟩, gy, ly⟩ := hpre
  have dx := good_dig gx
  have dy := good_dig gy
  have hm := mul_iv xn yn xs ys
  have hl := dg_mul_len dx dy
  have ht := (madeN_dg true (nv xs * nv ys)).2
  rw [good_valid gx (by omega), good_valid gy (by omega), show (!xn == yn) = (xn != yn) from rfl, hm.1, hm.2]
  simp only [pcond_false, Bool.not_true]
  rw [hm.2] at ht
  rw [ht]
  refine ⟨by omega, by omega, ⟨by omega, by omega, dx, dy⟩, by omega, by omega, trivial, trivial, trivial⟩
def ent_Mul : Ent := fun ds => match ds with
  | [.agg [.v (.bool xn), .ro n_xs ys_xs], .agg [.v (.bool yn), .ro n_ys ys_ys]] => some (.tup [d_int (decide (iv xn (unu ys_xs) * iv yn (unu ys_ys) < 0)) (ofL (iv xn (unu ys_xs) * iv yn (unu ys_ys))), .v (.int .i64 0)], (ys_ys = u32s (unu ys_ys) ∧ n_ys = (unu ys_ys).length) ∧ (ys_xs = u32s (unu ys_xs) ∧ n_xs = (unu ys_xs).length) ∧ (Good xn (unu ys_xs) ∧ (unu ys_xs).length ≤ 100) ∧ Good yn (unu ys_ys) ∧ (unu ys_ys).length ≤ 100)
  | _ => none
theorem ent_Mul_ok : EntOk Try.prog 63 ent_Mul := by
  intro ds d c h hc; unfold ent_Mul at h; split at h
  · rename_i xn n_xs ys_xs yn n_ys ys_ys; obtain ⟨rfl, rfl⟩ := pair_inj h
    obtain ⟨⟨h1, h2⟩, hc⟩ := hc; subst h2; generalize (unu ys_ys) = ys at *; subst h1
    obtain ⟨⟨h1, h2⟩, hc⟩ := hc; subst h2; generalize (unu ys_xs) = xs at *; subst h1
    exact Mul_pure _ xs _ ys hc
  · cases h
theorem rprod_pure (xn : Bool) (xs : List Nat) (yn : Bool) (ys : List Nat) (hpre : (Good xn xs ∧ xs.length ≤ 100) ∧ Good yn ys ∧ ys.length ≤ 100) : PureJ Try.prog 51 [.agg [.v (.bool xn), .ro xs.length (u32s xs)], .agg [.v (.bool yn), .ro ys.length (u32s ys)]] (d_int (decide (iv xn xs * iv yn ys < 0)) (ofL (iv xn xs * iv yn ys))) := by
  refine pureJ_of_vcx (call := (addPure 63 ent_Mul noCalls)) (lp := fun _ => none) (N := 10) T_ok mixed (addPure_ok ent_Mul_ok noCalls_ok) Try.func51 rfl (by decide) (by kernel_rfl) (by kernel_rfl) (LpAll.none _) (by first | trivial | (simp only [NamelessL, Nameless, and_self, and_true, true_and]; done) | (simp [NamelessL, Nameless, u32s_nameless, namelessL_ints, d_int]; done)) (by first | trivial | (simp only [NamelessL, Nameless, and_self, and_true, true_and]; done) | (simp [NamelessL, Nameless, u32s_nameless, namelessL_ints, d_int]; done)) ?_
  refine of_eq (B := (True ∧ (True ∧ (True ∧ (((2 : Nat) ≤ (2 : Nat)) ∧ (((2 : Nat) ≤ (2 : Nat)) ∧ (((((u32s ys) = (u32s (unu (u32s ys)))) ∧ ((List.length ys) = (List.length (unu (u32s ys))))) ∧ ((((u32s xs) = (u32s (unu (u32s xs)))) ∧ ((List.length xs) = (List.length (unu (u32s xs))))) ∧ (((Good xn (unu (u32s xs))) ∧ ((List.length (unu (u32s xs))) ≤ (100 : Nat))) ∧ ((Good yn (unu (u32s ys))) ∧ ((List.length (unu (u32s ys))) ≤ (100 : Nat)))))) ∧ (True ∧ (True ∧ (True ∧ (True ∧ ((((2 : Nat) = (2 : Nat)) ∧ ((2 : Nat) ≤ (2 : Nat))) ∧ (True ∧ (((2 : Nat) ≤ (2 : Nat)) ∧ ((((2 : Nat) = (2 : Nat)) ∧ ((2 : Nat) ≤ (2 : Nat))) ∧ ((((2 : Nat) ≤ (2 : Nat)) ∧ True) ∧ ((True ∧ (True ∧ True)) ∧ ((D.agg [(D.v (Value.bool (Decidable.decide (((iv xn (unu (u32s xs))) * (iv yn (unu (u32s ys)))) < (0 : Int))))), (D.ro (List.length (ofL ((iv xn (unu (u32s xs))) * (iv yn (unu (u32s ys)))))) (u32s (ofL ((iv xn (unu (u32s xs))) * (iv yn (unu (u32s ys)))))))]) = (D.agg [(D.v (Value.bool (Decidable.decide (((iv xn xs) * (iv yn ys)) < (0 : Int))))), (D.ro (List.length (ofL ((iv xn xs) * (iv yn ys)))) (u32s (ofL ((iv xn xs) * (iv yn ys)))))]))))))))))))))))))) (by kernel_rfl) ?_
  simp only [true_and, and_true, and_self, IsInt_lit, IsBool_lit, IsStr_lit, Bool.not_eq_true', Bool.not_eq_false', Bool.not_true, Bool.not_false, Int.reduceLE, Int.reduceLT, Int.reduceNeg, Nat.le_refl, Int.le_refl, Nat.reduceLT, Nat.reduceLeDiff, Nat.reduceEqDiff, D.v.injEq, D.tup.injEq, D.agg.injEq, D.ro.injEq, List.cons.injEq, Value.int.injEq, Value.bool.injEq, pcond_true, pcond_false, NamelessL, Nameless, Nat.reduceMul, Nat.reduceAdd, Nat.zero_add, Int.toNat_natCast, unu_u32s]
  exact hpre
def ent_rprod : Ent := fun ds => match ds with
  | [.agg [.v (.bool xn), .ro n_xs ys_xs], .agg [.v (.bool yn), .ro n_ys ys_ys]] => some (d_int (decide (iv xn (unu ys_xs) * iv yn (unu ys_ys) < 0)) (ofL (iv xn (unu ys_xs) * iv yn (unu ys_ys))), (ys_ys = u32s (unu ys_ys) ∧ n_ys = (unu ys_ys).length) ∧ (ys_xs = u32s (unu ys_xs) ∧ n_xs = (unu ys_xs).length) ∧ (Good xn (unu ys_xs) ∧ (unu ys_xs).length ≤ 100) ∧ Good yn (unu ys_ys) ∧ (unu ys_ys).length ≤ 100)
  | _ => none
theorem ent_rprod_ok : EntOk Try.prog 51 ent_rprod := by
  intro ds d c h hc; unfold ent_rprod at h; split at h
  · rename_i xn n_xs ys_xs yn n_ys ys_ys; obtain ⟨rfl, rfl⟩ := pair_inj h
    obtain ⟨⟨h1, h2⟩, hc⟩ := hc; subst h2; generalize (unu ys_ys) = ys at *; subst h1
    obtain ⟨⟨h1, h2⟩, hc⟩ := hc; subst h2; generalize (unu ys_xs) = xs at *; subst h1
    exact rprod_pure _ xs _ ys hc
  · cases h
theorem rsign_pure (xn : Bool) (xs : List Nat) (yn : Bool) (ys : List Nat) (hpre : (Good xn xs ∧ xs.length ≤ 30) ∧ (Good yn ys ∧ ys.length ≤ 30) ∧ -PB < iv yn ys ∧ iv yn ys < PB) : PureJ Try.prog 33 [.agg [.v (.bool xn), .ro xs.length (u32s xs)], .agg [.v (.bool yn), .ro ys.length (u32s ys)]] (.v (.int .i64 (sg (iv xn xs) (iv yn ys)))) := by
  refine pureJ_of_vcx (call := (addPure 49 ent_Sign (addPure 51 ent_rprod (addPure 34 ent_Of (addPure 50 ent_Compare noCalls))))) (lp := fun _ => none) (N := 10) T_ok mixed (addPure_ok ent_Sign_ok (addPure_ok ent_rprod_ok (addPure_ok ent_Of_ok (addPure_ok ent_Compare_ok noCalls_ok)))) Try.func33 rfl (by decide) (by kernel_rfl) (by kernel_rfl) (LpAll.none _) (by first | trivial | (simp only [NamelessL, Nameless, and_self, and_true, true_and]; done) | (simp [NamelessL, Nameless, u32s_nameless, namelessL_ints]; done)) (by first | trivial | (simp only [NamelessL, Nameless, and_self, and_true, true_and]; done) | (simp [NamelessL, Nameless, u32s_nameless, namelessL_ints]; done)) ?_
  refine of_eq (B := (True ∧ (True ∧ (True ∧ (((2 : Nat) ≤ (2 : Nat)) ∧ (((((u32s xs) = (u32s (unu (u32s xs)))) ∧ ((List.length xs) = (List.length (unu (u32s xs))))) ∧ ((List.length (unu (u32s xs))) ≤ (1000000000000 : Nat))) ∧ (((2 : Nat) ≤ (2 : Nat)) ∧ (((((u32s ys) = (u32s (unu (u32s ys)))) ∧ ((List.length ys) = (List.length (unu (u32s ys))))) ∧ ((List.length (unu (u32s ys))) ≤ (1000000000000 : Nat))) ∧ (True ∧ (True ∧ ((Bool.true = Bool.true) ∧ (True ∧ (True ∧ (True ∧ (pcond ((cmpI xn (unu (u32s xs)) Bool.false ([] : List Nat)) == (0 : Int)) (True ∧ (True ∧ (True ∧ (True ∧ (True ∧ (True ∧ (True ∧ (True ∧ (True ∧ (True ∧ (True ∧ (True ∧ (True ∧ ((D.v (Value.int IntKind.i64 (IntKind.wrap IntKind.i64 ((IntKind.wrap IntKind.i64 ((cmpI xn (unu (u32s xs)) Bool.false ([] : List Nat)) + (cmpI yn (unu (u32s ys)) Bool.false ([] : List Nat)))) - (IntKind.wrap IntKind.i64 ((IntKind.wrap IntKind.i64 ((cmpI xn (unu (u32s xs)) Bool.false ([] : List Nat)) * (cmpI yn (unu (u32s ys)) Bool.false ([] : List Nat)))) * (cmpI yn (unu (u32s ys)) Bool.false ([] : List Nat)))))))) = (D.v (Value.int IntKind.i64 (sg (iv xn xs) (iv yn ys)))))))))))))))))) (True ∧ (True ∧ (True ∧ (True ∧ (pcond ((cmpI xn (unu (u32s xs)) Bool.false ([] : List Nat)) == (cmpI yn (unu (u32s ys)) Bool.false ([] : List Nat))) (True ∧ (True ∧ (True ∧ (True ∧ (True ∧ (True ∧ (True ∧ (True ∧ (True ∧ (True ∧ (True ∧ (True ∧ ((D.v (Value.int IntKind.i64 (IntKind.wrap IntKind.i64 ((IntKind.wrap IntKind.i64 ((cmpI xn (unu (u32s xs)) Bool.false ([] : List Nat)) + (cmpI yn (unu (u32s ys)) Bool.false ([] : List Nat)))) - (IntKind.wrap IntKind.i64 ((IntKind.wrap IntKind.i64 ((cmpI xn (unu (u32s xs)) Bool.false ([] : List Nat)) * (cmpI yn (unu (u32s ys)) Bool.false ([] : List Nat)))) * (cmpI yn (unu (u32s ys)) Bool.false ([] : List Nat)))))))) = (D.v (Value.int IntKind.i64 (sg (iv xn xs) (iv yn ys))))))))))))))))) (True ∧ (True ∧ (pcond ((cmpI yn (unu (u32s ys)) Bool.false ([] : List Nat)) == (0 : Int)) (True ∧ (True ∧ (True ∧ (True ∧ ((D.v (Value.int IntKind.i64 (cmpI xn (unu (u32s xs)) Bool.false ([] : List Nat)))) = (D.v (Value.int IntKind.i64 (sg (iv xn xs) (iv yn ys))))))))) (((2 : Nat) ≤ (2 : Nat)) ∧ (((2 : Nat) ≤ (2 : Nat)) ∧ (((((u32s xs) = (u32s (unu (u32s xs)))) ∧ ((List.length xs) = (List.length (unu (u32s xs))))) ∧ ((((u32s xs) = (u32s (unu (u32s xs)))) ∧ ((List.length xs) = (List.length (unu (u32s xs))))) ∧ (((Good xn (unu (u32s xs))) ∧ ((List.length (unu (u32s xs))) ≤ (100 : Nat))) ∧ ((Good xn (unu (u32s xs))) ∧ ((List.length (unu (u32s xs))) ≤ (100 : Nat)))))) ∧ ((((-(9223372036854775808 : Int)) ≤ (3 : Int)) ∧ ((3 : Int) < (9223372036854775808 : Int))) ∧ (((2 : Nat) ≤ (2 : Nat)) ∧ (((2 : Nat) ≤ (2 : Nat)) ∧ (((((u32s ys) = (u32s (unu (u32s ys)))) ∧ ((List.length ys) = (List.length (unu (u32s ys))))) ∧ ((((u32s ys) = (u32s (unu (u32s ys)))) ∧ ((List.length ys) = (List.length (unu (u32s ys))))) ∧ (((Good yn (unu (u32s ys))) ∧ ((List.length (unu (u32s ys))) ≤ (100 : Nat))) ∧ ((Good yn (unu (u32s ys))) ∧ ((List.length (unu (u32s ys))) ≤ (100 : Nat)))))) ∧ (((((u32s (ofL ((iv yn (unu (u32s ys))) * (iv yn (unu (u32s ys)))))) = (u32s (unu (u32s (ofL ((iv yn (unu (u32s ys))) * (iv yn (unu (u32s ys))))))))) ∧ ((List.length (ofL ((iv yn (unu (u32s ys))) * (iv yn (unu (u32s ys)))))) = (List.length (unu (u32s (ofL ((iv yn (unu (u32s ys))) * (iv yn (unu (u32s ys)))))))))) ∧ ((((u32s (ofL (3 : Int))) = (u32s (unu (u32s (ofL (3 : Int)))))) ∧ ((1 : Nat) = (1 : Nat))) ∧ (((Good Bool.false (unu (u32s (ofL (3 : Int))))) ∧ ((1 : Nat) ≤ (100 : Nat))) ∧ ((Good (Decidable.decide (((iv yn (unu (u32s ys))) * (iv yn (unu (u32s ys)))) < (0 : Int))) (unu (u32s (ofL ((iv yn (unu (u32s ys))) * (iv yn (unu (u32s ys)))))))) ∧ ((List.length (unu (u32s (ofL ((iv yn (unu (u32s ys))) * (iv yn (unu (u32s ys)))))))) ≤ (100 : Nat)))))) ∧ (((((u32s (ofL ((3 : Int) * (iv (Decidable.decide (((iv yn (unu (u32s ys))) * (iv yn (unu (u32s ys)))) < (0 : Int))) (unu (u32s (ofL ((iv yn (unu (u32s ys))) * (iv yn (unu (u32s ys))))))))))) = (u32s (unu (u32s (ofL ((3 : Int) * (iv (Decidable.decide (((iv yn (unu (u32s ys))) * (iv yn (unu (u32s ys)))) < (0 : Int))) (unu (u32s (ofL ((iv yn (unu (u32s ys))) * (iv yn (unu (u32s ys)))))))))))))) ∧ ((List.length (ofL ((3 : Int) * (iv (Decidable.decide (((iv yn (unu (u32s ys))) * (iv yn (unu (u32s ys)))) < (0 : Int))) (unu (u32s (ofL ((iv yn (unu (u32s ys))) * (iv yn (unu (u32s ys))))))))))) = (List.length (unu (u32s (ofL ((3 : Int) * (iv (Decidable.decide (((iv yn (unu (u32s ys))) * (iv yn (unu (u32s ys)))) < (0 : Int))) (unu (u32s (ofL ((iv yn (unu (u32s ys))) * (iv yn (unu (u32s ys))))))))))))))) ∧ ((((u32s (ofL ((iv xn (unu (u32s xs))) * (iv xn (unu (u32s xs)))))) = (u32s (unu (u32s (ofL ((iv xn (unu (u32s xs))) * (iv xn (unu (u32s xs))))))))) ∧ ((List.length (ofL ((iv xn (unu (u32s xs))) * (iv xn (unu (u32s xs)))))) = (List.length (unu (u32s (ofL ((iv xn (unu (u32s xs))) * (iv xn (unu (u32s xs)))))))))) ∧ (((List.length (unu (u32s (ofL ((iv xn (unu (u32s xs))) * (iv xn (unu (u32s xs)))))))) ≤ (1000000000000 : Nat)) ∧ ((List.length (unu (u32s (ofL ((3 : Int) * (iv (Decidable.decide (((iv yn (unu (u32s ys))) * (iv yn (unu (u32s ys)))) < (0 : Int))) (unu (u32s (ofL ((iv yn (unu (u32s ys))) * (iv yn (unu (u32s ys))))))))))))) ≤ (1000000000000 : Nat))))) ∧ (True ∧ ((Bool.true = Bool.true) ∧ (True ∧ (True ∧ (True ∧ (True ∧ (True ∧ (True ∧ ((D.v (Value.int IntKind.i64 (IntKind.wrap IntKind.i64 ((cmpI xn (unu (u32s xs)) Bool.false ([] : List Nat)) * (cmpI (Decidable.decide (((iv xn (unu (u32s xs))) * (iv xn (unu (u32s xs)))) < (0 : Int))) (unu (u32s (ofL ((iv xn (unu (u32s xs))) * (iv xn (unu (u32s xs))))))) (Decidable.decide (((3 : Int) * (iv (Decidable.decide (((iv yn (unu (u32s ys))) * (iv yn (unu (u32s ys)))) < (0 : Int))) (unu (u32s (ofL ((iv yn (unu (u32s ys))) * (iv yn (unu (u32s ys))))))))) < (0 : Int))) (unu (u32s (ofL ((3 : Int) * (iv (Decidable.decide (((iv yn (unu (u32s ys))) * (iv yn (unu (u32s ys)))) < (0 : Int))) (unu (u32s (ofL ((iv yn (unu (u32s ys))) * (iv yn (unu (u32s ys))))))))))))))))) = (D.v (Value.int IntKind.i64 (sg (iv xn xs) (iv yn ys))))))))))))))))))))))))))))))))))))))))))))) (by kernel_rfl) ?_
  simp only [true_and, and_true, and_self, IsInt_lit, IsBool_lit, IsStr_lit, Bool.not_eq_true', Bool.not_eq_false', Bool.not_true, Bool.not_false, Int.reduceLE, Int.reduceLT, Int.reduceNeg, Nat.le_refl, Int.le_refl, Nat.reduceLT, Nat.reduceLeDiff, Nat.reduceEqDiff, D.v.injEq, D.tup.injEq, D.agg.injEq, D.ro.injEq, List.cons.injEq, Value.int.injEq, Value.bool.injEq, pcond_true, pcond_false, NamelessL, Nameless, Nat.reduceMul, Nat.reduceAdd, Nat.zero_add, Int.toNat_natCast, unu_u32s]
  obtain ⟨⟨gx, lx⟩, ⟨gy, ly⟩, b1, b2⟩ := hpre
  have ex := (good_eq gx).2
  have ey := (good_eq gy).2
  have cx : cmpI xn xs false [] = (iv xn xs).sign := by rw [cmpI_good gx good_zero (by omega) (by simp), iv_zero, cmpZ_zero]
  have cy : cmpI yn ys false [] = (iv yn ys).sign := by rw [cmpI_good gy good_zero (by omega) (by simp), iv_zero, cmpZ_zero]
  rw [cx, cy]
  rw [ex] at lx
  rw [ey] at ly
  rw [← ex] at lx
  rw [← ey] at ly
  have lx' : (ofL (iv xn xs)).length ≤ 30 := ex ▸ lx
  have ly' : (ofL (iv yn ys)).length ≤ 30 := ey ▸ ly
  clear cx cy ex ey
  simp only [iv_of]
  generalize iv xn xs = p at *
  generalize iv yn ys = q at *
  have l1 := ofL_mul_len p p
  have l2 := ofL_mul_len q q
  have l3 := ofL_mul_len 3 (q * q)
  have l0 : (ofL 3).length ≤ 1 := ofL_len (k := 1) (by decide)
  have g1 := cmpI_good (good_of (p * p)) (good_of (3 * (q * q))) (by omega) (by omega)
  rw [iv_of, iv_of] at g1
  rw [g1]
  have hs := sg_cases p q b1 b2
  obtain ⟨hs0, hs1⟩ := hs
  refine ⟨by omega, by omega, pcond_intro (fun h => ?_) (fun h => pcond_intro (fun h2 => ?_) (fun h2 => pcond_intro (fun h3 => ?_) (fun h3 => ⟨⟨gx, by omega⟩, ⟨gy, by omega⟩, ⟨by simpa using good_of 3, good_of _, by omega⟩, ⟨by omega, by omega⟩, ?_⟩)))⟩
  · simp at h; subst h
    simp [hs0.1]
    rcases sign_three q with h | h | h <;> rw [h] <;> decide
  · simp at h2; rw [← h2]
    rw [hs0.2 h2]
    rcases sign_three p with h | h | h <;> rw [h] <;> decide
  · simp at h3; subst h3; exact hs1.1.symm
  · simp at h h2 h3
    rw [hs1.2 h h2 h3]
    rcases sign_three p with h | h | h <;> rcases cmpZ_three (p * p) (3 * (q * q)) with k | k | k <;> rw [h, k] <;> decide
def ent_rsign : Ent := fun ds => match ds with
  | [.agg [.v (.bool xn), .ro n_xs ys_xs], .agg [.v (.bool yn), .ro n_ys ys_ys]] => some (.v (.int .i64 (sg (iv xn (unu ys_xs)) (iv yn (unu ys_ys)))), (ys_ys = u32s (unu ys_ys) ∧ n_ys = (unu ys_ys).length) ∧ (ys_xs = u32s (unu ys_xs) ∧ n_xs = (unu ys_xs).length) ∧ (Good xn (unu ys_xs) ∧ (unu ys_xs).length ≤ 30) ∧ (Good yn (unu ys_ys) ∧ (unu ys_ys).length ≤ 30) ∧ -PB < iv yn (unu ys_ys) ∧ iv yn (unu ys_ys) < PB)
  | _ => none
theorem ent_rsign_ok : EntOk Try.prog 33 ent_rsign := by
  intro ds d c h hc; unfold ent_rsign at h; split at h
  · rename_i xn n_xs ys_xs yn n_ys ys_ys; obtain ⟨rfl, rfl⟩ := pair_inj h
    obtain ⟨⟨h1, h2⟩, hc⟩ := hc; subst h2; generalize (unu ys_ys) = ys at *; subst h1
    obtain ⟨⟨h1, h2⟩, hc⟩ := hc; subst h2; generalize (unu ys_xs) = xs at *; subst h1
    exact rsign_pure _ xs _ ys hc
  · cases h
end Go.Proofs.Ytdaeefbljdadfaa
