/- The specification's integers: products as values. -/
import Derived.Test.YthnhfkpihbjddaaRd
namespace Go.Proofs.Ythnhfkpihbjddaa
open Go.VD
set_option linter.unusedVariables false
set_option linter.unusedSimpArgs false
set_option maxRecDepth 100000

theorem ofL_len64 {n : Int} (h : -9223372036854775808 ≤ n ∧ n < 9223372036854775808) : (ofL n).length ≤ 2 := ofL_len (k := 2) (by omega)
theorem ofL_mul_len (v w : Int) : (ofL (v * w)).length ≤ (ofL v).length + (ofL w).length := by
  unfold ofL
  rw [Int.natAbs_mul]
  have := dg_mul_len (dg_dig v.natAbs) (dg_dig w.natAbs)
  rwa [nv_dg, nv_dg] at this
theorem Mul_pure (xn : Bool) (xs : List Nat) (yn : Bool) (ys : List Nat) (hpre : (Good xn xs ∧ xs.length ≤ 100) ∧ Good yn ys ∧ ys.length ≤ 100) : PureJ Try.prog 32 [.agg [.v (.bool xn), .ro xs.length (u32s xs)], .agg [.v (.bool yn), .ro ys.length (u32s ys)]] (.tup [d_int (decide (iv xn xs * iv yn ys < 0)) (ofL (iv xn xs * iv yn ys)), .v (.int .i64 0)]) := by
  refine pureJ_of_vcx (call := (addPure 21 ent_Valid (addPure 69 ent_times (addPure 60 ent_made (addPure 59 ent_result noCalls))))) (lp := fun _ => none) (N := 10) T_ok mixed (addPure_ok ent_Valid_ok (addPure_ok ent_times_ok (addPure_ok ent_made_ok (addPure_ok ent_result_ok noCalls_ok)))) Try.func32 rfl (by decide) (by kernel_rfl) (by kernel_rfl) (LpAll.none _) (by first | trivial | (simp only [NamelessL, Nameless, and_self, and_true, true_and]; done) | (simp [NamelessL, Nameless, u32s_nameless, namelessL_ints, d_int]; done)) (by first | trivial | (simp only [NamelessL, Nameless, and_self, and_true, true_and]; done) | (simp [NamelessL, Nameless, u32s_nameless, namelessL_ints, d_int]; done)) ?_
  refine of_eq (B := (True ∧ (True ∧ (True ∧ (True ∧ (((2 : Nat) ≤ (2 : Nat)) ∧ (((((u32s xs) = (u32s (unu (u32s xs)))) ∧ ((List.length xs) = (List.length (unu (u32s xs))))) ∧ ((List.length (unu (u32s xs))) ≤ (1000000000000 : Nat))) ∧ (True ∧ (True ∧ (pcond (!(validL xn (unu (u32s xs)))) (True ∧ (True ∧ ((((2 : Nat) = (2 : Nat)) ∧ ((2 : Nat) ≤ (2 : Nat))) ∧ (True ∧ ((((2 : Nat) ≤ (2 : Nat)) ∧ True) ∧ (((True ∧ (True ∧ True)) ∧ (True ∧ True)) ∧ ((D.tup [(D.agg [(D.v (Value.bool Bool.false)), (D.v (Value.slice (Option.none) (0 : Nat) (0 : Nat)))]), (D.v (Value.int IntKind.i64 (1 : Int)))]) = (D.tup [(D.agg [(D.v (Value.bool (Decidable.decide (((iv xn xs) * (iv yn ys)) < (0 : Int))))), (D.ro (List.length (ofL ((iv xn xs) * (iv yn ys)))) (u32s (ofL ((iv xn xs) * (iv yn ys)))))]), (D.v (Value.int IntKind.i64 (0 : Int)))])))))))) (((2 : Nat) ≤ (2 : Nat)) ∧ (((((u32s ys) = (u32s (unu (u32s ys)))) ∧ ((List.length ys) = (List.length (unu (u32s ys))))) ∧ ((List.length (unu (u32s ys))) ≤ (1000000000000 : Nat))) ∧ (True ∧ (True ∧ (pcond (!(validL yn (unu (u32s ys)))) (True ∧ ((((2 : Nat) = (2 : Nat)) ∧ ((2 : Nat) ≤ (2 : Nat))) ∧ (True ∧ ((((2 : Nat) ≤ (2 : Nat)) ∧ True) ∧ (((True ∧ (True ∧ True)) ∧ (True ∧ True)) ∧ ((D.tup [(D.agg [(D.v (Value.bool Bool.false)), (D.v (Value.slice (Option.none) (0 : Nat) (0 : Nat)))]), (D.v (Value.int IntKind.i64 (1 : Int)))]) = (D.tup [(D.agg [(D.v (Value.bool (Decidable.decide (((iv xn xs) * (iv yn ys)) < (0 : Int))))), (D.ro (List.length (ofL ((iv xn xs) * (iv yn ys)))) (u32s (ofL ((iv xn xs) * (iv yn ys)))))]), (D.v (Value.int IntKind.i64 (0 : Int)))]))))))) (True ∧ ((((0 : Nat) < (2 : Nat)) ∧ (IsBool (D.v (Value.bool xn)))) ∧ (True ∧ ((((0 : Nat) < (2 : Nat)) ∧ (IsBool (D.v (Value.bool yn)))) ∧ (True ∧ (True ∧ (((1 : Nat) < (2 : Nat)) ∧ (True ∧ (((1 : Nat) < (2 : Nat)) ∧ (((((u32s ys) = (u32s (unu (u32s ys)))) ∧ ((List.length ys) = (List.length (unu (u32s ys))))) ∧ ((((u32s xs) = (u32s (unu (u32s xs)))) ∧ ((List.length xs) = (List.length (unu (u32s xs))))) ∧ (((List.length (unu (u32s xs))) ≤ (400000 : Nat)) ∧ (((List.length (unu (u32s ys))) ≤ (400000 : Nat)) ∧ ((Dig (unu (u32s xs))) ∧ (Dig (unu (u32s ys)))))))) ∧ (((((u32s (dg ((nv (unu (u32s xs))) * (nv (unu (u32s ys)))))) = (u32s (unu (u32s (dg ((nv (unu (u32s xs))) * (nv (unu (u32s ys))))))))) ∧ ((List.length (dg ((nv (unu (u32s xs))) * (nv (unu (u32s ys)))))) = (List.length (unu (u32s (dg ((nv (unu (u32s xs))) * (nv (unu (u32s ys)))))))))) ∧ ((List.length (unu (u32s (dg ((nv (unu (u32s xs))) * (nv (unu (u32s ys)))))))) ≤ (1000000 : Nat))) ∧ (((((u32s (trimL (unu (u32s (dg ((nv (unu (u32s xs))) * (nv (unu (u32s ys))))))))) = (u32s (unu (u32s (trimL (unu (u32s (dg ((nv (unu (u32s xs))) * (nv (unu (u32s ys)))))))))))) ∧ ((List.length (trimL (unu (u32s (dg ((nv (unu (u32s xs))) * (nv (unu (u32s ys))))))))) = (List.length (unu (u32s (trimL (unu (u32s (dg ((nv (unu (u32s xs))) * (nv (unu (u32s ys))))))))))))) ∧ ((List.length (unu (u32s (trimL (unu (u32s (dg ((nv (unu (u32s xs))) * (nv (unu (u32s ys))))))))))) ≤ (400 : Nat))) ∧ (True ∧ (True ∧ ((((2 : Nat) = (2 : Nat)) ∧ ((2 : Nat) ≤ (2 : Nat))) ∧ (True ∧ ((Bool.true = Bool.true) ∧ ((((2 : Nat) ≤ (2 : Nat)) ∧ True) ∧ (((True ∧ (True ∧ True)) ∧ (True ∧ True)) ∧ ((D.tup [(D.agg [(D.v (Value.bool (madeN (!(xn == yn)) (unu (u32s (dg ((nv (unu (u32s xs))) * (nv (unu (u32s ys)))))))))), (D.ro (List.length (unu (u32s (trimL (unu (u32s (dg ((nv (unu (u32s xs))) * (nv (unu (u32s ys))))))))))) (u32s (unu (u32s (trimL (unu (u32s (dg ((nv (unu (u32s xs))) * (nv (unu (u32s ys))))))))))))]), (D.v (Value.int IntKind.i64 (0 : Int)))]) = (D.tup [(D.agg [(D.v (Value.bool (Decidable.decide (((iv xn xs) * (iv yn ys)) < (0 : Int))))), (D.ro (List.length (ofL ((iv xn xs) * (iv yn ys)))) (u32s (ofL ((iv xn xs) * (iv yn ys)))))]), (D.v (Value.int IntKind.i64 (0 : Int)))])))))))))))))))))))))))))))))))))))) (by kernel_rfl) ?_
  simp only [true_and, and_true, and_self, IsInt_lit, IsBool_lit, IsStr_lit, Bool.not_eq_true', Bool.not_eq_false', Bool.not_true, Bool.not_false, Int.reduceLE, Int.reduceLT, Int.reduceNeg, Nat.le_refl, Int.le_refl, Nat.reduceLT, Nat.reduceLeDiff, Nat.reduceEqDiff, D.v.injEq, D.tup.injEq, D.agg.injEq, D.ro.injEq, List.cons.injEq, Value.int.injEq, Value.bool.injEq, pcond_true, pcond_false, NamelessL, Nameless, Nat.reduceMul, Nat.reduceAdd, Nat.zero_add, Int.toNat_natCast, unu_u32s]
  obtain ⟨⟨gx, lx⟩, gy, ly⟩ := hpre
  have dx := good_dig gx
  have dy := good_dig gy
  have hm := mul_iv xn yn xs ys
  have hl := dg_mul_len dx dy
  have ht := (madeN_dg true (nv xs * nv ys)).2
  rw [good_valid gx (by omega), good_valid gy (by omega), show (!xn == yn) = (xn != yn) from rfl, hm.1, hm.2]
  simp only [pcond_false, Bool.not_true]
  rw [hm.2] at ht
  rw [ht]
  refine ⟨by omega, by omega, ⟨by omega, by omega, dx, dy⟩, by omega, by omega, trivial, trivial, trivial⟩
def ent_Mul : Ent := fun ds => match ds with
  | [.agg [.v (.bool xn), .ro n_xs ys_xs], .agg [.v (.bool yn), .ro n_ys ys_ys]] => some (.tup [d_int (decide (iv xn (unu ys_xs) * iv yn (unu ys_ys) < 0)) (ofL (iv xn (unu ys_xs) * iv yn (unu ys_ys))), .v (.int .i64 0)], (ys_ys = u32s (unu ys_ys) ∧ n_ys = (unu ys_ys).length) ∧ (ys_xs = u32s (unu ys_xs) ∧ n_xs = (unu ys_xs).length) ∧ (Good xn (unu ys_xs) ∧ (unu ys_xs).length ≤ 100) ∧ Good yn (unu ys_ys) ∧ (unu ys_ys).length ≤ 100)
  | _ => none
theorem ent_Mul_ok : EntOk Try.prog 32 ent_Mul := by
  intro ds d c h hc; unfold ent_Mul at h; split at h
  · rename_i xn n_xs ys_xs yn n_ys ys_ys; obtain ⟨rfl, rfl⟩ := pair_inj h
    obtain ⟨⟨h1, h2⟩, hc⟩ := hc; subst h2; generalize (unu ys_ys) = ys at *; subst h1
    obtain ⟨⟨h1, h2⟩, hc⟩ := hc; subst h2; generalize (unu ys_xs) = xs at *; subst h1
    exact Mul_pure _ xs _ ys hc
  · cases h
end Go.Proofs.Ythnhfkpihbjddaa
