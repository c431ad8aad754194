/- Layer 1: sameness of results, and what the laws leave out as large. -/
import Derived.Test.YthnhfkpihbjddaaIha
namespace Go.Proofs.Ythnhfkpihbjddaa
open Go.VD
set_option linter.unusedVariables false
set_option linter.unusedSimpArgs false
set_option maxRecDepth 100000

theorem cmpTop_self (xs : List Nat) : ∀ n, cmpTop xs xs n = 0
  | 0 => rfl
  | n + 1 => by unfold cmpTop; rw [if_neg (by omega), if_neg (by omega), cmpTop_self xs n]
theorem cmpL_self (xs : List Nat) : cmpL xs xs = 0 := by
  unfold cmpL; rw [if_neg (by simp)]; exact cmpTop_self xs _
theorem gSame_pure (xn : Bool) (xs : List Nat) (yn : Bool) (ys : List Nat) (hpre : xs.length ≤ 1000) : PureJ Try.prog 16 [.agg [.v (.bool xn), .ro xs.length (u32s xs)], .agg [.v (.bool yn), .ro ys.length (u32s ys)]] (.v (.bool ((xn == yn) && (cmpL xs ys == 0)))) := by
  refine pureJ_of_vcx (call := (addPure 61 ent_cmpr noCalls)) (lp := fun _ => none) (N := 10) T_ok mixed (addPure_ok ent_cmpr_ok noCalls_ok) Try.func16 rfl (by decide) (by kernel_rfl) (by kernel_rfl) (LpAll.none _) (by first | trivial | (simp only [NamelessL, Nameless, and_self, and_true, true_and]; done) | (simp [NamelessL, Nameless, u32s_nameless, namelessL_ints]; done)) (by first | trivial | (simp only [NamelessL, Nameless, and_self, and_true, true_and]; done) | (simp [NamelessL, Nameless, u32s_nameless, namelessL_ints]; done)) ?_
  refine of_eq (B := (True ∧ (True ∧ (True ∧ (True ∧ ((((0 : Nat) < (2 : Nat)) ∧ (IsBool (D.v (Value.bool xn)))) ∧ (True ∧ ((((0 : Nat) < (2 : Nat)) ∧ (IsBool (D.v (Value.bool yn)))) ∧ (True ∧ (True ∧ (pcond (xn == yn) (True ∧ (((1 : Nat) < (2 : Nat)) ∧ (True ∧ (((1 : Nat) < (2 : Nat)) ∧ (((((u32s ys) = (u32s (unu (u32s ys)))) ∧ ((List.length ys) = (List.length (unu (u32s ys))))) ∧ ((((u32s xs) = (u32s (unu (u32s xs)))) ∧ ((List.length xs) = (List.length (unu (u32s xs))))) ∧ ((List.length (unu (u32s xs))) ≤ (1000000000000 : Nat)))) ∧ (True ∧ (True ∧ (True ∧ (True ∧ (True ∧ ((D.v (Value.bool ((cmpL (unu (u32s xs)) (unu (u32s ys))) == (0 : Int)))) = (D.v (Value.bool ((xn == yn) && ((cmpL xs ys) == (0 : Int)))))))))))))))) (True ∧ (True ∧ (True ∧ (True ∧ ((D.v (Value.bool Bool.false)) = (D.v (Value.bool ((xn == yn) && ((cmpL xs ys) == (0 : Int))))))))))))))))))))) (by kernel_rfl) ?_
  simp only [true_and, and_true, and_self, IsInt_lit, IsBool_lit, IsStr_lit, Bool.not_eq_true', Bool.not_eq_false', Bool.not_true, Bool.not_false, Int.reduceLE, Int.reduceLT, Int.reduceNeg, Nat.le_refl, Int.le_refl, Nat.reduceLT, Nat.reduceLeDiff, Nat.reduceEqDiff, D.v.injEq, D.tup.injEq, D.agg.injEq, D.ro.injEq, List.cons.injEq, Value.int.injEq, Value.bool.injEq, pcond_true, pcond_false, NamelessL, Nameless, Nat.reduceMul, Nat.reduceAdd, Nat.zero_add, Int.toNat_natCast, unu_u32s]
  refine pcond_intro (fun h => ?_) (fun h => ?_)
  · simp [h]; omega
  · simp [h]
def ent_gSame : Ent := fun ds => match ds with
  | [.agg [.v (.bool xn), .ro n_xs ys_xs], .agg [.v (.bool yn), .ro n_ys ys_ys]] => some (.v (.bool ((xn == yn) && (cmpL (unu ys_xs) (unu ys_ys) == 0))), (ys_ys = u32s (unu ys_ys) ∧ n_ys = (unu ys_ys).length) ∧ (ys_xs = u32s (unu ys_xs) ∧ n_xs = (unu ys_xs).length) ∧ (unu ys_xs).length ≤ 1000)
  | _ => none
theorem ent_gSame_ok : EntOk Try.prog 16 ent_gSame := by
  intro ds d c h hc; unfold ent_gSame at h; split at h
  · rename_i xn n_xs ys_xs yn n_ys ys_ys; obtain ⟨rfl, rfl⟩ := pair_inj h
    obtain ⟨⟨h1, h2⟩, hc⟩ := hc; subst h2; generalize (unu ys_ys) = ys at *; subst h1
    obtain ⟨⟨h1, h2⟩, hc⟩ := hc; subst h2; generalize (unu ys_xs) = xs at *; subst h1
    exact gSame_pure _ xs _ ys hc
  · cases h
theorem gLarge_pure (xn : Bool) (xs : List Nat) (yn : Bool) (ys : List Nat) : PureJ Try.prog 12 [.ro 2 [.v (.bool xn), .ro xs.length (u32s xs), .v (.bool yn), .ro ys.length (u32s ys)]] (.v (.bool (decide (40 < xs.length) || decide (40 < ys.length)))) := by
  refine pureJ_of_vcx (call := noCalls) (lp := fun _ => none) (N := 4) T_ok mixed noCalls_ok Try.func12 rfl (by decide) (by kernel_rfl) (by kernel_rfl) (LpAll.none _) (by first | trivial | (simp only [NamelessL, Nameless, and_self, and_true, true_and]; done) | (simp [NamelessL, Nameless, u32s_nameless, namelessL_ints]; done)) (by first | trivial | (simp only [NamelessL, Nameless, and_self, and_true, true_and]; done) | (simp [NamelessL, Nameless, u32s_nameless, namelessL_ints]; done)) ?_
  refine of_eq (B := (True ∧ (True ∧ (True ∧ (True ∧ (True ∧ (True ∧ (True ∧ (True ∧ ((((0 : Int) ≤ (0 : Int)) ∧ ((0 : Int) < (2 : Int))) ∧ (True ∧ (((1 : Nat) < (4 : Nat)) ∧ (True ∧ (True ∧ (pcond (Decidable.decide ((40 : Int) < (((List.length xs) : Nat) : Int))) (True ∧ (True ∧ (True ∧ ((D.v (Value.bool Bool.true)) = (D.v (Value.bool ((Decidable.decide ((40 : Nat) < (List.length xs))) || (Decidable.decide ((40 : Nat) < (List.length ys)))))))))) (True ∧ (True ∧ (True ∧ (True ∧ (True ∧ (True ∧ (True ∧ (True ∧ (True ∧ ((((0 : Int) ≤ (1 : Int)) ∧ ((1 : Int) < (2 : Int))) ∧ (True ∧ (((3 : Nat) < (4 : Nat)) ∧ (True ∧ (True ∧ (pcond (Decidable.decide ((40 : Int) < (((List.length ys) : Nat) : Int))) (True ∧ (True ∧ (True ∧ ((D.v (Value.bool Bool.true)) = (D.v (Value.bool ((Decidable.decide ((40 : Nat) < (List.length xs))) || (Decidable.decide ((40 : Nat) < (List.length ys)))))))))) (True ∧ (True ∧ (True ∧ (True ∧ (True ∧ (True ∧ (True ∧ (True ∧ (True ∧ (True ∧ ((D.v (Value.bool Bool.false)) = (D.v (Value.bool ((Decidable.decide ((40 : Nat) < (List.length xs))) || (Decidable.decide ((40 : Nat) < (List.length ys))))))))))))))))))))))))))))))))))))))))))))))) (by kernel_rfl) ?_
  simp only [true_and, and_true, and_self, IsInt_lit, IsBool_lit, IsStr_lit, Bool.not_eq_true', Bool.not_eq_false', Bool.not_true, Bool.not_false, Int.reduceLE, Int.reduceLT, Int.reduceNeg, Nat.le_refl, Int.le_refl, Nat.reduceLT, Nat.reduceLeDiff, Nat.reduceEqDiff, D.v.injEq, D.tup.injEq, D.agg.injEq, D.ro.injEq, List.cons.injEq, Value.int.injEq, Value.bool.injEq, pcond_true, pcond_false, NamelessL, Nameless, Nat.reduceMul, Nat.reduceAdd, Nat.zero_add, Int.toNat_natCast, unu_u32s]
  have e : ∀ n : Nat, decide ((40 : Int) < (n : Int)) = decide (40 < n) := fun n => by rw [decide_eq_decide]; omega
  rw [e, e]
  refine pcond_intro (fun h => ?_) (fun h => pcond_intro (fun h2 => ?_) (fun h2 => ?_)) <;> simp [*]
def ent_gLarge : Ent := fun ds => match ds with
  | [.ro 2 [.v (.bool xn), .ro n_xs ys_xs, .v (.bool yn), .ro n_ys ys_ys]] => some (.v (.bool (decide (40 < (unu ys_xs).length) || decide (40 < (unu ys_ys).length))), (ys_ys = u32s (unu ys_ys) ∧ n_ys = (unu ys_ys).length) ∧ (ys_xs = u32s (unu ys_xs) ∧ n_xs = (unu ys_xs).length) ∧ True)
  | _ => none
theorem ent_gLarge_ok : EntOk Try.prog 12 ent_gLarge := by
  intro ds d c h hc; unfold ent_gLarge at h; split at h
  · rename_i xn n_xs ys_xs yn n_ys ys_ys; obtain ⟨rfl, rfl⟩ := pair_inj h
    obtain ⟨⟨h1, h2⟩, hc⟩ := hc; subst h2; generalize (unu ys_ys) = ys at *; subst h1
    obtain ⟨⟨h1, h2⟩, hc⟩ := hc; subst h2; generalize (unu ys_xs) = xs at *; subst h1
    exact gLarge_pure _ xs _ ys
  · cases h
theorem lsame_pure (xn : Bool) (xs : List Nat) (e : Int) (yn : Bool) (ys : List Nat) (f : Int) (hpre : xs.length ≤ 1000) : PureJ Try.prog 15 [.agg [.v (.bool xn), .ro xs.length (u32s xs)], .v (.int .i64 e), .agg [.v (.bool yn), .ro ys.length (u32s ys)], .v (.int .i64 f)] (.v (.bool ((e == f) && ((xn == yn) && (cmpL xs ys == 0))))) := by
  refine pureJ_of_vcx (call := (addPure 16 ent_gSame noCalls)) (lp := fun _ => none) (N := 10) T_ok mixed (addPure_ok ent_gSame_ok noCalls_ok) Try.func15 rfl (by decide) (by kernel_rfl) (by kernel_rfl) (LpAll.none _) (by first | trivial | (simp only [NamelessL, Nameless, and_self, and_true, true_and]; done) | (simp [NamelessL, Nameless, u32s_nameless, namelessL_ints]; done)) (by first | trivial | (simp only [NamelessL, Nameless, and_self, and_true, true_and]; done) | (simp [NamelessL, Nameless, u32s_nameless, namelessL_ints]; done)) ?_
  refine of_eq (B := (True ∧ (True ∧ (True ∧ (True ∧ (True ∧ (True ∧ (True ∧ (pcond (e == f) (((2 : Nat) ≤ (2 : Nat)) ∧ (((2 : Nat) ≤ (2 : Nat)) ∧ (((((u32s ys) = (u32s (unu (u32s ys)))) ∧ ((List.length ys) = (List.length (unu (u32s ys))))) ∧ ((((u32s xs) = (u32s (unu (u32s xs)))) ∧ ((List.length xs) = (List.length (unu (u32s xs))))) ∧ ((List.length (unu (u32s xs))) ≤ (1000 : Nat)))) ∧ (True ∧ (True ∧ (True ∧ (True ∧ ((D.v (Value.bool ((xn == yn) && ((cmpL (unu (u32s xs)) (unu (u32s ys))) == (0 : Int))))) = (D.v (Value.bool ((e == f) && ((xn == yn) && ((cmpL xs ys) == (0 : Int)))))))))))))) (True ∧ (True ∧ (True ∧ (True ∧ ((D.v (Value.bool Bool.false)) = (D.v (Value.bool ((e == f) && ((xn == yn) && ((cmpL xs ys) == (0 : Int)))))))))))))))))))) (by kernel_rfl) ?_
  simp only [true_and, and_true, and_self, IsInt_lit, IsBool_lit, IsStr_lit, Bool.not_eq_true', Bool.not_eq_false', Bool.not_true, Bool.not_false, Int.reduceLE, Int.reduceLT, Int.reduceNeg, Nat.le_refl, Int.le_refl, Nat.reduceLT, Nat.reduceLeDiff, Nat.reduceEqDiff, D.v.injEq, D.tup.injEq, D.agg.injEq, D.ro.injEq, List.cons.injEq, Value.int.injEq, Value.bool.injEq, pcond_true, pcond_false, NamelessL, Nameless, Nat.reduceMul, Nat.reduceAdd, Nat.zero_add, Int.toNat_natCast, unu_u32s]
  refine pcond_intro (fun h => ⟨hpre, ?_⟩) (fun h => ?_) <;> simp [h]
def ent_lsame : Ent := fun ds => match ds with
  | [.agg [.v (.bool xn), .ro n_xs ys_xs], .v (.int .i64 e), .agg [.v (.bool yn), .ro n_ys ys_ys], .v (.int .i64 f)] => some (.v (.bool ((e == f) && ((xn == yn) && (cmpL (unu ys_xs) (unu ys_ys) == 0)))), (ys_ys = u32s (unu ys_ys) ∧ n_ys = (unu ys_ys).length) ∧ (ys_xs = u32s (unu ys_xs) ∧ n_xs = (unu ys_xs).length) ∧ (unu ys_xs).length ≤ 1000)
  | _ => none
theorem ent_lsame_ok : EntOk Try.prog 15 ent_lsame := by
  intro ds d c h hc; unfold ent_lsame at h; split at h
  · rename_i xn n_xs ys_xs e yn n_ys ys_ys f; obtain ⟨rfl, rfl⟩ := pair_inj h
    obtain ⟨⟨h1, h2⟩, hc⟩ := hc; subst h2; generalize (unu ys_ys) = ys at *; subst h1
    obtain ⟨⟨h1, h2⟩, hc⟩ := hc; subst h2; generalize (unu ys_xs) = xs at *; subst h1
    exact lsame_pure _ xs _ _ ys _ hc
  · cases h
theorem okS_len (v : Int) : (okS v).2.1.length ≤ 400 := by
  unfold okS
  by_cases h : (ofL v).length ≤ 400 <;> simp [h]
theorem arS_len (b : Bool) (v : Int) : (arS b v).2.1.length ≤ 400 := by
  unfold arS
  cases b with
  | false => simp
  | true => exact okS_len v
end Go.Proofs.Ythnhfkpihbjddaa
