/- The program's integers: trimming, comparison, digits. -/
import Derived.Test.YthnhfkpihbjddaaRh
namespace Go.Proofs.Ythnhfkpihbjddaa
open Go.VD
set_option linter.unusedVariables false
set_option linter.unusedSimpArgs false
set_option maxRecDepth 100000

def lp_itrimLoop (xs : List Nat) : LoopO := loopRule (α := Nat) (β := Unit) [] (fun k => k ≤ xs.length ∧ tn xs k = tn xs xs.length) (fun k => [(0, .ro xs.length (u32s xs)), (3, .v (.int .i64 (k : Int)))]) (fun _ => []) (xs.length) (fun _ => True) (fun _ => (.exit 0, [(0, .ro xs.length (u32s xs)), (3, .v (.int .i64 (tn xs xs.length : Nat)))], []))
theorem itrimLoop_rule (xs : List Nat) (hpre : xs.length ≤ 1000000) : LRuleP Try.prog Try.f89.ntmps (loopAt ((Try.f89.body).getD .skip) 2) (lp_itrimLoop xs) := by
  refine lrule_of (α := Nat) (β := Unit) (call := noCalls) (lp := fun _ => none) (N := 10) T_ok mixed noCalls_ok (fun k => k) (by kernel_rfl) (LpAllP.none _) ?_
  intro x hJ
  refine of_eq (B := (True ∧ (True ∧ (True ∧ (pcond (Decidable.decide ((0 : Int) < ((x : Nat) : Int))) (True ∧ (True ∧ (True ∧ ((((0 : Int) ≤ (IntKind.wrap IntKind.i64 (((x : Nat) : Int) - (1 : Int)))) ∧ ((IntKind.wrap IntKind.i64 (((x : Nat) : Int) - (1 : Int))) < (((List.length xs) : Nat) : Int))) ∧ (((((Int.toNat (IntKind.wrap IntKind.i64 (((x : Nat) : Int) - (1 : Int)))) * (1 : Nat)) < (List.length (u32s xs))) ∧ (IsInt IntKind.u32 (List.getD (u32s xs) ((Int.toNat (IntKind.wrap IntKind.i64 (((x : Nat) : Int) - (1 : Int)))) * (1 : Nat)) (Inhabited.default)))) ∧ (True ∧ (True ∧ (pcond ((cellInt (List.getD (u32s xs) ((Int.toNat (IntKind.wrap IntKind.i64 (((x : Nat) : Int) - (1 : Int)))) * (1 : Nat)) (Inhabited.default))) == (0 : Int)) (True ∧ (True ∧ (True ∧ (∃ (y : Nat), (∃ (kp : (List (Option Nat))), ((y < x) ∧ (((y ≤ (List.length xs)) ∧ ((tn xs y) = (tn xs (List.length xs)))) ∧ (viewAll kp [(Prod.mk (0 : Nat) (D.ro (List.length xs) (u32s xs))), (Prod.mk (3 : Nat) (D.v (Value.int IntKind.i64 (IntKind.wrap IntKind.i64 (((x : Nat) : Int) - (1 : Int))))))] ([] : List (Option Blk)) [(Prod.mk (0 : Nat) (D.ro (List.length xs) (u32s xs))), (Prod.mk (3 : Nat) (D.v (Value.int IntKind.i64 ((y : Nat) : Int))))] ([] : List (Option Blk)))))))))) (∃ (r : Unit), (∃ (kp : (List (Option Nat))), (True ∧ (((Exit.exit (0 : Nat)) = (Exit.exit (0 : Nat))) ∧ (viewAll kp [(Prod.mk (0 : Nat) (D.ro (List.length xs) (u32s xs))), (Prod.mk (3 : Nat) (D.v (Value.int IntKind.i64 ((x : Nat) : Int))))] ([] : List (Option Blk)) (Prod.fst (Prod.snd ((fun (x_1 : Unit) => (Prod.mk (Exit.exit (0 : Nat)) (Prod.mk [(Prod.mk (0 : Nat) (D.ro (List.length xs) (u32s xs))), (Prod.mk (3 : Nat) (D.v (Value.int IntKind.i64 (((tn xs (List.length xs)) : Nat) : Int))))] ([] : List (Option Blk))))) r))) (Prod.snd (Prod.snd ((fun (x_1 : Unit) => (Prod.mk (Exit.exit (0 : Nat)) (Prod.mk [(Prod.mk (0 : Nat) (D.ro (List.length xs) (u32s xs))), (Prod.mk (3 : Nat) (D.v (Value.int IntKind.i64 (((tn xs (List.length xs)) : Nat) : Int))))] ([] : List (Option Blk))))) r)))))))))))))))) (True ∧ (∃ (r : Unit), (∃ (kp : (List (Option Nat))), (True ∧ (((Exit.exit (0 : Nat)) = (Exit.exit (0 : Nat))) ∧ (viewAll kp [(Prod.mk (0 : Nat) (D.ro (List.length xs) (u32s xs))), (Prod.mk (3 : Nat) (D.v (Value.int IntKind.i64 ((x : Nat) : Int))))] ([] : List (Option Blk)) (Prod.fst (Prod.snd ((fun (x_1 : Unit) => (Prod.mk (Exit.exit (0 : Nat)) (Prod.mk [(Prod.mk (0 : Nat) (D.ro (List.length xs) (u32s xs))), (Prod.mk (3 : Nat) (D.v (Value.int IntKind.i64 (((tn xs (List.length xs)) : Nat) : Int))))] ([] : List (Option Blk))))) r))) (Prod.snd (Prod.snd ((fun (x_1 : Unit) => (Prod.mk (Exit.exit (0 : Nat)) (Prod.mk [(Prod.mk (0 : Nat) (D.ro (List.length xs) (u32s xs))), (Prod.mk (3 : Nat) (D.v (Value.int IntKind.i64 (((tn xs (List.length xs)) : Nat) : Int))))] ([] : List (Option Blk))))) r)))))))))))))) (by kernel_rfl) ?_
  obtain ⟨hx, ht⟩ := hJ
  simp only [true_and, and_true, and_self, IsInt_lit, IsBool_lit, IsStr_lit, Bool.not_eq_true', Bool.not_eq_false', Bool.not_true, Bool.not_false, Int.reduceLE, Int.reduceLT, Int.reduceNeg, Nat.le_refl, Int.le_refl, Nat.reduceLT, Nat.reduceLeDiff, Nat.reduceEqDiff, D.v.injEq, D.tup.injEq, D.agg.injEq, D.ro.injEq, List.cons.injEq, Value.int.injEq, Value.bool.injEq, pcond_true, pcond_false, NamelessL, Nameless, Nat.reduceMul, Nat.reduceAdd, Nat.zero_add, Int.toNat_natCast]
  refine pcond_intro (fun h => ?_) (fun h => ⟨(), [], ?_⟩)
  · simp only [decide_eq_true_eq] at h
    obtain ⟨j, rfl⟩ : ∃ j, x = j + 1 := ⟨x - 1, by omega⟩
    have e : IntKind.i64.wrap (((j + 1 : Nat) : Int) - 1) = (j : Int) := by rw [wrap_i64_of (by omega) (by omega)]; omega
    simp only [e, Int.toNat_natCast, Nat.mul_one, u32s_cell, u32s_length, u32s_isInt _ _ (show j < xs.length by omega)]
    refine ⟨⟨by omega, by omega⟩, ⟨by omega, trivial⟩, pcond_intro (fun h2 => ⟨j, [], by omega, ⟨by omega, ?_⟩, ?_⟩) (fun h2 => ⟨(), [], ?_⟩)⟩
    · rw [← ht]; simp at h2; simp [tn, h2]
    · refine of_eq (B := ((Bool.true = Bool.true) ∧ ((([] : List (Option Blk)) = ([] : List (Option Blk))) ∧ ((True ∧ ((D.ro (List.length xs) (u32s xs)) = (D.ro (List.length xs) (u32s xs)))) ∧ ((True ∧ ((D.v (Value.int IntKind.i64 ((j : Nat) : Int))) = (D.v (Value.int IntKind.i64 ((j : Nat) : Int))))) ∧ True))))) (by kernel_rfl) ?_
      simp
    · refine of_eq (B := ((Bool.true = Bool.true) ∧ ((([] : List (Option Blk)) = ([] : List (Option Blk))) ∧ ((True ∧ ((D.ro (List.length xs) (u32s xs)) = (D.ro (List.length xs) (u32s xs)))) ∧ ((True ∧ ((D.v (Value.int IntKind.i64 (((j + (1 : Nat)) : Nat) : Int))) = (D.v (Value.int IntKind.i64 (((tn xs (List.length xs)) : Nat) : Int))))) ∧ True))))) (by kernel_rfl) ?_
      have : tn xs xs.length = j + 1 := by rw [← ht]; simp at h2; simp [tn, h2]
      simp [this]
  · refine of_eq (B := ((Bool.true = Bool.true) ∧ ((([] : List (Option Blk)) = ([] : List (Option Blk))) ∧ ((True ∧ ((D.ro (List.length xs) (u32s xs)) = (D.ro (List.length xs) (u32s xs)))) ∧ ((True ∧ ((D.v (Value.int IntKind.i64 ((x : Nat) : Int))) = (D.v (Value.int IntKind.i64 (((tn xs (List.length xs)) : Nat) : Int))))) ∧ True))))) (by kernel_rfl) ?_
    have : tn xs xs.length = x := by rw [← ht]; simp at h; subst h; rfl
    simp [this]
theorem itrim_pure (xs : List Nat) (hpre : xs.length ≤ 1000000) : PureJ Try.prog 89 [.ro xs.length (u32s xs)] (.ro (trimL xs).length (u32s (trimL xs))) := by
  refine pureJ_of_vcpN (call := noCalls) (lp := fun k => bif Nat.beq k 2 then some (lp_itrimLoop xs) else none) (N := 10) T_ok mixed noCalls_ok Try.func89 rfl (by decide) (by kernel_rfl) (by kernel_rfl) (of_eq (B := LRuleP Try.prog Try.f89.ntmps (loopAt ((Try.f89.body).getD .skip) 2) (lp_itrimLoop xs) ∧ True) (by kernel_rfl) ⟨itrimLoop_rule xs hpre, trivial⟩) (by first | trivial | (simp only [NamelessL, Nameless, and_self, and_true, true_and]; done) | (simp [NamelessL, Nameless, u32s_nameless, namelessL_ints]; done)) (by first | trivial | (simp only [NamelessL, Nameless, and_self, and_true, true_and]; done) | (simp [NamelessL, Nameless, u32s_nameless, namelessL_ints]; done)) ?_
  refine of_eq (B := (True ∧ (True ∧ (True ∧ (True ∧ ((((List.length xs) ≤ (List.length xs)) ∧ ((tn xs (List.length xs)) = (tn xs (List.length xs)))) ∧ (((Bool.true = Bool.true) ∧ ((([] : List (Option Blk)) = ([] : List (Option Blk))) ∧ ((True ∧ ((D.ro (List.length xs) (u32s xs)) = (D.ro (List.length xs) (u32s xs)))) ∧ ((True ∧ ((D.v (Value.int IntKind.i64 (((List.length xs) : Nat) : Int))) = (D.v (Value.int IntKind.i64 (((List.length xs) : Nat) : Int))))) ∧ True)))) ∧ (Unit → (True → (True ∧ (True ∧ (pcond ((((tn xs (List.length xs)) : Nat) : Int) == (0 : Int)) (True ∧ (True ∧ (True ∧ ((D.ro (0 : Nat) ([] : List D)) = (D.ro (List.length (trimL xs)) (u32s (trimL xs))))))) (True ∧ (True ∧ (True ∧ ((True ∧ ((((0 : Int) ≤ (((tn xs (List.length xs)) : Nat) : Int)) ∧ ((((tn xs (List.length xs)) : Nat) : Int) ≤ (((Int.toNat (((tn xs (List.length xs)) : Nat) : Int)) : Nat) : Int))) ∧ (((0 : Int) ≤ (((tn xs (List.length xs)) : Nat) : Int)) ∧ (((((tn xs (List.length xs)) : Nat) : Int) ≤ (((List.length xs) : Nat) : Int)) ∧ (Bool.true = Bool.true))))) ∧ (True ∧ (True ∧ (True ∧ ((D.ro ((Int.toNat (((tn xs (List.length xs)) : Nat) : Int)) - (0 : Nat)) (List.take ((Int.toNat (((tn xs (List.length xs)) : Nat) : Int)) * (1 : Nat)) (u32s xs))) = (D.ro (List.length (trimL xs)) (u32s (trimL xs))))))))))))))))))))))) (by kernel_rfl) ?_
  have ht := tn_le xs xs.length
  simp only [true_and, and_true, and_self, IsInt_lit, IsBool_lit, IsStr_lit, Bool.not_eq_true', Bool.not_eq_false', Bool.not_true, Bool.not_false, Int.reduceLE, Int.reduceLT, Int.reduceNeg, Nat.le_refl, Int.le_refl, Nat.reduceLT, Nat.reduceLeDiff, Nat.reduceEqDiff, D.v.injEq, D.tup.injEq, D.agg.injEq, D.ro.injEq, List.cons.injEq, Value.int.injEq, Value.bool.injEq, pcond_true, pcond_false, NamelessL, Nameless, Nat.reduceMul, Nat.reduceAdd, Nat.zero_add, Int.toNat_natCast, Nat.mul_one, Nat.sub_zero, u32s_take, List.nil_append, List.drop_zero, List.take_take, Nat.min_self, u32s_length, List.length_take, trimL_length, u32s_nameless]
  refine fun _ _ => pcond_intro (fun h => ?_) (fun h => ⟨⟨by omega, by omega, by omega⟩, rfl⟩)
  have h0 : tn xs xs.length = 0 := by simp at h; omega
  exact ⟨h0.symm, by unfold trimL; rw [h0]; rfl⟩
def ent_itrim : Ent := fun ds => match ds with
  | [.ro n_xs ys_xs] => some (.ro (trimL (unu ys_xs)).length (u32s (trimL (unu ys_xs))), (ys_xs = u32s (unu ys_xs) ∧ n_xs = (unu ys_xs).length) ∧ (unu ys_xs).length ≤ 1000000)
  | _ => none
theorem ent_itrim_ok : EntOk Try.prog 89 ent_itrim := by
  intro ds d c h hc; unfold ent_itrim at h; split at h
  · rename_i n_xs ys_xs; obtain ⟨rfl, rfl⟩ := pair_inj h
    obtain ⟨⟨h1, h2⟩, hc⟩ := hc; subst h2; generalize (unu ys_xs) = xs at *; subst h1
    exact itrim_pure xs hc
  · cases h
theorem iat_pure (xs : List Nat) (i : Int) (hpre : 0 ≤ i) : PureJ Try.prog 96 [.ro xs.length (u32s xs), .v (.int .i64 i)] (.v (.int .u32 (xs.getD i.toNat 0 : Nat))) := by
  refine pureJ_of_vcx (call := noCalls) (lp := fun _ => none) (N := 10) T_ok mixed noCalls_ok Try.func96 rfl (by decide) (by kernel_rfl) (by kernel_rfl) (LpAll.none _) (by first | trivial | (simp only [NamelessL, Nameless, and_self, and_true, true_and]; done) | (simp [NamelessL, Nameless, u32s_nameless, namelessL_ints]; done)) (by first | trivial | (simp only [NamelessL, Nameless, and_self, and_true, true_and]; done) | (simp [NamelessL, Nameless, u32s_nameless, namelessL_ints]; done)) ?_
  refine of_eq (B := (True ∧ (True ∧ (True ∧ (True ∧ (True ∧ (pcond (Decidable.decide (i < (((List.length xs) : Nat) : Int))) (True ∧ (True ∧ ((((0 : Int) ≤ i) ∧ (i < (((List.length xs) : Nat) : Int))) ∧ (((((Int.toNat i) * (1 : Nat)) < (List.length (u32s xs))) ∧ (IsInt IntKind.u32 (List.getD (u32s xs) ((Int.toNat i) * (1 : Nat)) (Inhabited.default)))) ∧ (True ∧ (True ∧ (True ∧ ((D.v (Value.int IntKind.u32 (cellInt (List.getD (u32s xs) ((Int.toNat i) * (1 : Nat)) (Inhabited.default))))) = (D.v (Value.int IntKind.u32 (((List.getD xs (Int.toNat i) (0 : Nat)) : Nat) : Int))))))))))) (True ∧ (True ∧ (True ∧ ((D.v (Value.int IntKind.u32 (0 : Int))) = (D.v (Value.int IntKind.u32 (((List.getD xs (Int.toNat i) (0 : Nat)) : Nat) : Int)))))))))))))) (by kernel_rfl) ?_
  simp only [true_and, and_true, and_self, IsInt_lit, IsBool_lit, IsStr_lit, Bool.not_eq_true', Bool.not_eq_false', Bool.not_true, Bool.not_false, Int.reduceLE, Int.reduceLT, Int.reduceNeg, Nat.le_refl, Int.le_refl, Nat.reduceLT, Nat.reduceLeDiff, Nat.reduceEqDiff, D.v.injEq, D.tup.injEq, D.agg.injEq, D.ro.injEq, List.cons.injEq, Value.int.injEq, Value.bool.injEq, pcond_true, pcond_false, NamelessL, Nameless, Nat.reduceMul, Nat.reduceAdd, Nat.zero_add, Int.toNat_natCast, Nat.mul_one, u32s_cell, u32s_length]
  refine pcond_intro (fun h => ?_) (fun h => ?_)
  · simp only [decide_eq_true_eq] at h
    exact ⟨⟨hpre, h⟩, by omega, by rw [u32s_isInt _ _ (by omega)]; trivial⟩
  · simp only [decide_eq_false_iff_not] at h
    simp [List.getD_eq_getElem?_getD, List.getElem?_eq_none (show xs.length ≤ i.toNat by omega)]
def ent_iat : Ent := fun ds => match ds with
  | [.ro n_xs ys_xs, .v (.int .i64 i)] => some (.v (.int .u32 ((unu ys_xs).getD i.toNat 0 : Nat)), (ys_xs = u32s (unu ys_xs) ∧ n_xs = (unu ys_xs).length) ∧ 0 ≤ i)
  | _ => none
theorem ent_iat_ok : EntOk Try.prog 96 ent_iat := by
  intro ds d c h hc; unfold ent_iat at h; split at h
  · rename_i n_xs ys_xs i; obtain ⟨rfl, rfl⟩ := pair_inj h
    obtain ⟨⟨h1, h2⟩, hc⟩ := hc; subst h2; generalize (unu ys_xs) = xs at *; subst h1
    exact iat_pure xs _ hc
  · cases h
/-- the value of two digits; hidden, so that the kernel does not compare it with a great number digit by digit -/
noncomputable def wordV (xs : List Nat) : Int := Classical.choose (p := fun v : Int => v = ((xs.getD 0 0 + 4294967296 * xs.getD 1 0 : Nat) : Int)) ⟨_, rfl⟩
theorem wordV_eq (xs : List Nat) : wordV xs = ((xs.getD 0 0 + 4294967296 * xs.getD 1 0 : Nat) : Int) := Classical.choose_spec (p := fun v : Int => v = ((xs.getD 0 0 + 4294967296 * xs.getD 1 0 : Nat) : Int)) ⟨_, rfl⟩
theorem iword_pure (xs : List Nat) (hpre : Dig xs) : PureJ Try.prog 106 [.ro xs.length (u32s xs)] (.v (.int .u64 (wordV xs))) := by
  refine pureJ_of_vcx (call := (addPure 96 ent_iat noCalls)) (lp := fun _ => none) (N := 10) T_ok mixed (addPure_ok ent_iat_ok noCalls_ok) Try.func106 rfl (by decide) (by kernel_rfl) (by kernel_rfl) (LpAll.none _) (by first | trivial | (simp only [NamelessL, Nameless, and_self, and_true, true_and]; done) | (simp [NamelessL, Nameless, u32s_nameless, namelessL_ints]; done)) (by first | trivial | (simp only [NamelessL, Nameless, and_self, and_true, true_and]; done) | (simp [NamelessL, Nameless, u32s_nameless, namelessL_ints]; done)) ?_
  refine of_eq (B := (True ∧ (True ∧ (((((u32s xs) = (u32s (unu (u32s xs)))) ∧ ((List.length xs) = (List.length (unu (u32s xs))))) ∧ ((0 : Int) ≤ (1 : Int))) ∧ (True ∧ (((0 : Int) ≤ (32 : Int)) ∧ (True ∧ (((((u32s xs) = (u32s (unu (u32s xs)))) ∧ ((List.length xs) = (List.length (unu (u32s xs))))) ∧ ((0 : Int) ≤ (0 : Int))) ∧ (True ∧ (True ∧ (True ∧ (True ∧ (True ∧ ((D.v (Value.int IntKind.u64 (bits BinOp.or IntKind.u64 (IntKind.wrap IntKind.u64 ((IntKind.wrap IntKind.u64 (((List.getD (unu (u32s xs)) (1 : Nat) (0 : Nat)) : Nat) : Int)) * (4294967296 : Int))) (IntKind.wrap IntKind.u64 (((List.getD (unu (u32s xs)) (0 : Nat) (0 : Nat)) : Nat) : Int))))) = (D.v (Value.int IntKind.u64 (wordV xs))))))))))))))))) (by kernel_rfl) ?_
  simp only [true_and, and_true, and_self, IsInt_lit, IsBool_lit, IsStr_lit, Bool.not_eq_true', Bool.not_eq_false', Bool.not_true, Bool.not_false, Int.reduceLE, Int.reduceLT, Int.reduceNeg, Nat.le_refl, Int.le_refl, Nat.reduceLT, Nat.reduceLeDiff, Nat.reduceEqDiff, D.v.injEq, D.tup.injEq, D.agg.injEq, D.ro.injEq, List.cons.injEq, Value.int.injEq, Value.bool.injEq, pcond_true, pcond_false, NamelessL, Nameless, Nat.reduceMul, Nat.reduceAdd, Nat.zero_add, Int.toNat_natCast, unu_u32s]
  rw [wordV_eq]
  have h0 := hpre.get 0
  have h1 := hpre.get 1
  have := or_shift h1 h0
  rwa [show IntKind.u64.wrap (xs.getD 1 0 : Int) = (xs.getD 1 0 : Int) by rw [wrap_u64]; omega]
noncomputable def ent_iword : Ent := fun ds => match ds with
  | [.ro n_xs ys_xs] => some (.v (.int .u64 (wordV (unu ys_xs))), (ys_xs = u32s (unu ys_xs) ∧ n_xs = (unu ys_xs).length) ∧ Dig (unu ys_xs))
  | _ => none
theorem ent_iword_ok : EntOk Try.prog 106 ent_iword := by
  intro ds d c h hc; unfold ent_iword at h; split at h
  · rename_i n_xs ys_xs; obtain ⟨rfl, rfl⟩ := pair_inj h
    obtain ⟨⟨h1, h2⟩, hc⟩ := hc; subst h2; generalize (unu ys_xs) = xs at *; subst h1
    exact iword_pure xs hc
  · cases h
theorem isign_pure (b : Bool) : PureJ Try.prog 108 [.v (.bool b)] (.v (.int .i64 (if b then -1 else 1))) := by
  refine pureJ_of_vcx (call := noCalls) (lp := fun _ => none) (N := 10) T_ok mixed noCalls_ok Try.func108 rfl (by decide) (by kernel_rfl) (by kernel_rfl) (LpAll.none _) (by first | trivial | (simp only [NamelessL, Nameless, and_self, and_true, true_and]; done) | (simp [NamelessL, Nameless, u32s_nameless, namelessL_ints]; done)) (by first | trivial | (simp only [NamelessL, Nameless, and_self, and_true, true_and]; done) | (simp [NamelessL, Nameless, u32s_nameless, namelessL_ints]; done)) ?_
  refine of_eq (B := (True ∧ (True ∧ (pcond b (True ∧ (True ∧ (True ∧ ((D.v (Value.int IntKind.i64 (-(1 : Int)))) = (D.v (Value.int IntKind.i64 (ite (b = Bool.true) (-(1 : Int)) (1 : Int)))))))) (True ∧ (True ∧ (True ∧ ((D.v (Value.int IntKind.i64 (1 : Int))) = (D.v (Value.int IntKind.i64 (ite (b = Bool.true) (-(1 : Int)) (1 : Int)))))))))))) (by kernel_rfl) ?_
  simp only [true_and, and_true, and_self, IsInt_lit, IsBool_lit, IsStr_lit, Bool.not_eq_true', Bool.not_eq_false', Bool.not_true, Bool.not_false, Int.reduceLE, Int.reduceLT, Int.reduceNeg, Nat.le_refl, Int.le_refl, Nat.reduceLT, Nat.reduceLeDiff, Nat.reduceEqDiff, D.v.injEq, D.tup.injEq, D.agg.injEq, D.ro.injEq, List.cons.injEq, Value.int.injEq, Value.bool.injEq, pcond_true, pcond_false, NamelessL, Nameless, Nat.reduceMul, Nat.reduceAdd, Nat.zero_add, Int.toNat_natCast]
  refine pcond_intro (fun h => ?_) (fun h => ?_) <;> simp [h]
def ent_isign : Ent := fun ds => match ds with
  | [.v (.bool b)] => some (.v (.int .i64 (if b then -1 else 1)), True)
  | _ => none
theorem ent_isign_ok : EntOk Try.prog 108 ent_isign := by
  intro ds d c h hc; unfold ent_isign at h; split at h
  · obtain ⟨rfl, rfl⟩ := pair_inj h; exact isign_pure _
  · cases h
theorem idigits_pure (u : Int) (hpre : 0 ≤ u ∧ u < 18446744073709551616) : PureJ Try.prog 66 [.v (.int .u64 u)] (.ro (dg u.toNat).length (u32s (dg u.toNat))) := by
  refine pureJ_of_vcx (call := (addPure 89 ent_itrim noCalls)) (lp := fun _ => none) (N := 10) T_ok mixed (addPure_ok ent_itrim_ok noCalls_ok) Try.func66 rfl (by decide) (by kernel_rfl) (by kernel_rfl) (LpAll.none _) (by first | trivial | (simp only [NamelessL, Nameless, and_self, and_true, true_and]; done) | (simp [NamelessL, Nameless, u32s_nameless, namelessL_ints]; done)) (by first | trivial | (simp only [NamelessL, Nameless, and_self, and_true, true_and]; done) | (simp [NamelessL, Nameless, u32s_nameless, namelessL_ints]; done)) ?_
  refine of_eq (B := (True ∧ (True ∧ (True ∧ (True ∧ (((0 : Int) ≤ (32 : Int)) ∧ (True ∧ ((((2 : Nat) ≤ (16777216 : Nat)) ∧ ((2 : Nat) ≤ (9223372036854775807 : Nat))) ∧ (((((NamelessL [(D.v (Value.int IntKind.u32 (IntKind.wrap IntKind.u32 u))), (D.v (Value.int IntKind.u32 (IntKind.wrap IntKind.u32 (Int.fdiv u (4294967296 : Int)))))]) ∧ (((0 : Nat) < (1 : Nat)) ∧ ((2 : Nat) ≤ (2 : Nat)))) ∧ True) ∧ ((([(D.v (Value.int IntKind.u32 (IntKind.wrap IntKind.u32 u))), (D.v (Value.int IntKind.u32 (IntKind.wrap IntKind.u32 (Int.fdiv u (4294967296 : Int)))))] = (u32s (unu [(D.v (Value.int IntKind.u32 (IntKind.wrap IntKind.u32 u))), (D.v (Value.int IntKind.u32 (IntKind.wrap IntKind.u32 (Int.fdiv u (4294967296 : Int)))))]))) ∧ ((2 : Nat) = (List.length (unu [(D.v (Value.int IntKind.u32 (IntKind.wrap IntKind.u32 u))), (D.v (Value.int IntKind.u32 (IntKind.wrap IntKind.u32 (Int.fdiv u (4294967296 : Int)))))])))) ∧ ((List.length (unu [(D.v (Value.int IntKind.u32 (IntKind.wrap IntKind.u32 u))), (D.v (Value.int IntKind.u32 (IntKind.wrap IntKind.u32 (Int.fdiv u (4294967296 : Int)))))])) ≤ (1000000 : Nat)))) ∧ (True ∧ (True ∧ (True ∧ ((D.ro (List.length (trimL (unu [(D.v (Value.int IntKind.u32 (IntKind.wrap IntKind.u32 u))), (D.v (Value.int IntKind.u32 (IntKind.wrap IntKind.u32 (Int.fdiv u (4294967296 : Int)))))]))) (u32s (trimL (unu [(D.v (Value.int IntKind.u32 (IntKind.wrap IntKind.u32 u))), (D.v (Value.int IntKind.u32 (IntKind.wrap IntKind.u32 (Int.fdiv u (4294967296 : Int)))))])))) = (D.ro (List.length (dg (Int.toNat u))) (u32s (dg (Int.toNat u))))))))))))))))) (by kernel_rfl) ?_
  obtain ⟨h0, h1⟩ := hpre
  obtain ⟨u, rfl⟩ := Int.eq_ofNat_of_zero_le h0
  have e1 : IntKind.u32.wrap (u : Int) = ((u % 4294967296 : Nat) : Int) := by rw [wrap_u32]; omega
  have e2 : IntKind.u32.wrap ((u : Int).fdiv 4294967296) = ((u / 4294967296 % 4294967296 : Nat) : Int) := by rw [wrap_u32, Int.fdiv_eq_ediv_of_nonneg _ (by omega)]; omega
  have ht : trimL [u % 4294967296, u / 4294967296 % 4294967296] = dg u := trimL_dgn (k := 2) (v := u) (by omega)
  simp only [true_and, and_true, and_self, IsInt_lit, IsBool_lit, IsStr_lit, Bool.not_eq_true', Bool.not_eq_false', Bool.not_true, Bool.not_false, Int.reduceLE, Int.reduceLT, Int.reduceNeg, Nat.le_refl, Int.le_refl, Nat.reduceLT, Nat.reduceLeDiff, Nat.reduceEqDiff, D.v.injEq, D.tup.injEq, D.agg.injEq, D.ro.injEq, List.cons.injEq, Value.int.injEq, Value.bool.injEq, pcond_true, pcond_false, NamelessL, Nameless, Nat.reduceMul, Nat.reduceAdd, Nat.zero_add, Int.toNat_natCast, e1, e2, unu_two, ht]
  exact ⟨⟨rfl, rfl⟩, by simp⟩
def ent_idigits : Ent := fun ds => match ds with
  | [.v (.int .u64 u)] => some (.ro (dg u.toNat).length (u32s (dg u.toNat)), 0 ≤ u ∧ u < 18446744073709551616)
  | _ => none
theorem ent_idigits_ok : EntOk Try.prog 66 ent_idigits := by
  intro ds d c h hc; unfold ent_idigits at h; split at h
  · obtain ⟨rfl, rfl⟩ := pair_inj h; exact idigits_pure _ hc
  · cases h
theorem iValid_pure (neg : Bool) (xs : List Nat) (hpre : xs.length ≤ 1000000000000) : PureJ Try.prog 33 [.agg [.v (.bool neg), .ro xs.length (u32s xs)]] (.v (.bool (validL neg xs))) := by
  refine pureJ_of_vcx (call := noCalls) (lp := fun _ => none) (N := 10) T_ok mixed noCalls_ok Try.func33 rfl (by decide) (by kernel_rfl) (by kernel_rfl) (LpAll.none _) (by first | trivial | (simp only [NamelessL, Nameless, and_self, and_true, true_and]; done) | (simp [NamelessL, Nameless, u32s_nameless, namelessL_ints]; done)) (by first | trivial | (simp only [NamelessL, Nameless, and_self, and_true, true_and]; done) | (simp [NamelessL, Nameless, u32s_nameless, namelessL_ints]; done)) ?_
  refine of_eq (B := (True ∧ (True ∧ (True ∧ (((1 : Nat) < (2 : Nat)) ∧ (True ∧ (True ∧ (True ∧ (True ∧ (pcond ((((List.length xs) : Nat) : Int) == (0 : Int)) (True ∧ ((((0 : Nat) < (2 : Nat)) ∧ (IsBool (D.v (Value.bool neg)))) ∧ (True ∧ (True ∧ (True ∧ (True ∧ ((D.v (Value.bool (!neg))) = (D.v (Value.bool (validL neg xs)))))))))) (True ∧ (True ∧ (True ∧ (pcond (Decidable.decide ((((List.length xs) : Nat) : Int) ≤ (400 : Int))) (True ∧ (((1 : Nat) < (2 : Nat)) ∧ (True ∧ (True ∧ ((((0 : Int) ≤ (IntKind.wrap IntKind.i64 ((((List.length xs) : Nat) : Int) - (1 : Int)))) ∧ ((IntKind.wrap IntKind.i64 ((((List.length xs) : Nat) : Int) - (1 : Int))) < (((List.length xs) : Nat) : Int))) ∧ (((((Int.toNat (IntKind.wrap IntKind.i64 ((((List.length xs) : Nat) : Int) - (1 : Int)))) * (1 : Nat)) < (List.length (u32s xs))) ∧ (IsInt IntKind.u32 (List.getD (u32s xs) ((Int.toNat (IntKind.wrap IntKind.i64 ((((List.length xs) : Nat) : Int) - (1 : Int)))) * (1 : Nat)) (Inhabited.default)))) ∧ (True ∧ (True ∧ (True ∧ (True ∧ (True ∧ ((D.v (Value.bool ((cellInt (List.getD (u32s xs) ((Int.toNat (IntKind.wrap IntKind.i64 ((((List.length xs) : Nat) : Int) - (1 : Int)))) * (1 : Nat)) (Inhabited.default))) != (0 : Int)))) = (D.v (Value.bool (validL neg xs))))))))))))))) (True ∧ (True ∧ (True ∧ (True ∧ ((D.v (Value.bool Bool.false)) = (D.v (Value.bool (validL neg xs)))))))))))))))))))))) (by kernel_rfl) ?_
  simp only [true_and, and_true, and_self, IsInt_lit, IsBool_lit, IsStr_lit, Bool.not_eq_true', Bool.not_eq_false', Bool.not_true, Bool.not_false, Int.reduceLE, Int.reduceLT, Int.reduceNeg, Nat.le_refl, Int.le_refl, Nat.reduceLT, Nat.reduceLeDiff, Nat.reduceEqDiff, D.v.injEq, D.tup.injEq, D.agg.injEq, D.ro.injEq, List.cons.injEq, Value.int.injEq, Value.bool.injEq, pcond_true, pcond_false, NamelessL, Nameless, Nat.reduceMul, Nat.reduceAdd, Nat.zero_add, Int.toNat_natCast, unu_u32s, cast_eq0, cast_ne0]
  rcases Nat.eq_zero_or_pos xs.length with h0 | h0
  · simp [h0, validL, pcond]
  · have e : IntKind.i64.wrap ((xs.length : Int) - 1) = ((xs.length - 1 : Nat) : Int) := by rw [wrap_i64_of (by omega) (by omega)]; omega
    have hne : ¬ xs.length = 0 := by omega
    simp only [e, Int.toNat_natCast, Nat.mul_one, u32s_cell, u32s_length, u32s_isInt _ _ (show xs.length - 1 < xs.length by omega), cast_ne0, hne, decide_false, pcond_false, and_true]
    refine pcond_intro (fun h => ⟨⟨by omega, by omega⟩, by omega, ?_⟩) (fun h => ?_)
    · have h4 : xs.length ≤ 400 := by simp only [decide_eq_true_eq] at h; omega
      simp [validL, hne, h4]
    · have h4 : ¬ xs.length ≤ 400 := by simp only [decide_eq_false_iff_not] at h; omega
      simp [validL, hne, h4]
def ent_iValid : Ent := fun ds => match ds with
  | [.agg [.v (.bool neg), .ro n_xs ys_xs]] => some (.v (.bool (validL neg (unu ys_xs))), (ys_xs = u32s (unu ys_xs) ∧ n_xs = (unu ys_xs).length) ∧ (unu ys_xs).length ≤ 1000000000000)
  | _ => none
theorem ent_iValid_ok : EntOk Try.prog 33 ent_iValid := by
  intro ds d c h hc; unfold ent_iValid at h; split at h
  · rename_i neg n_xs ys_xs; obtain ⟨rfl, rfl⟩ := pair_inj h
    obtain ⟨⟨h1, h2⟩, hc⟩ := hc; subst h2; generalize (unu ys_xs) = xs at *; subst h1
    exact iValid_pure _ xs hc
  · cases h
theorem iOf_pure (n : Int) (hpre : -9223372036854775808 ≤ n ∧ n < 9223372036854775808) : PureJ Try.prog 27 [.v (.int .i64 n)] (d_int (decide (n < 0)) (ofL n)) := by
  refine pureJ_of_vcx (call := (addPure 66 ent_idigits noCalls)) (lp := fun _ => none) (N := 10) T_ok mixed (addPure_ok ent_idigits_ok noCalls_ok) Try.func27 rfl (by decide) (by kernel_rfl) (by kernel_rfl) (LpAll.none _) (by first | trivial | (simp only [NamelessL, Nameless, and_self, and_true, true_and]; done) | (simp [NamelessL, Nameless, u32s_nameless, namelessL_ints, d_int]; done)) (by first | trivial | (simp only [NamelessL, Nameless, and_self, and_true, true_and]; done) | (simp [NamelessL, Nameless, u32s_nameless, namelessL_ints, d_int]; done)) ?_
  refine of_eq (B := (True ∧ (True ∧ (True ∧ (True ∧ (True ∧ (True ∧ (pcond (Decidable.decide (n < (0 : Int))) (True ∧ (True ∧ (True ∧ (True ∧ (True ∧ (True ∧ ((((0 : Int) ≤ (IntKind.wrap IntKind.u64 ((0 : Int) - (IntKind.wrap IntKind.u64 n)))) ∧ ((IntKind.wrap IntKind.u64 ((0 : Int) - (IntKind.wrap IntKind.u64 n))) < (18446744073709551616 : Int))) ∧ (True ∧ ((((2 : Nat) = (2 : Nat)) ∧ ((2 : Nat) ≤ (2 : Nat))) ∧ ((((2 : Nat) ≤ (2 : Nat)) ∧ True) ∧ ((True ∧ (True ∧ True)) ∧ ((D.agg [(D.v (Value.bool (Decidable.decide (n < (0 : Int))))), (D.ro (List.length (dg (Int.toNat (IntKind.wrap IntKind.u64 ((0 : Int) - (IntKind.wrap IntKind.u64 n)))))) (u32s (dg (Int.toNat (IntKind.wrap IntKind.u64 ((0 : Int) - (IntKind.wrap IntKind.u64 n)))))))]) = (D.agg [(D.v (Value.bool (Decidable.decide (n < (0 : Int))))), (D.ro (List.length (ofL n)) (u32s (ofL n)))]))))))))))))) (True ∧ (True ∧ (True ∧ ((((0 : Int) ≤ (IntKind.wrap IntKind.u64 n)) ∧ ((IntKind.wrap IntKind.u64 n) < (18446744073709551616 : Int))) ∧ (True ∧ ((((2 : Nat) = (2 : Nat)) ∧ ((2 : Nat) ≤ (2 : Nat))) ∧ ((((2 : Nat) ≤ (2 : Nat)) ∧ True) ∧ ((True ∧ (True ∧ True)) ∧ ((D.agg [(D.v (Value.bool (Decidable.decide (n < (0 : Int))))), (D.ro (List.length (dg (Int.toNat (IntKind.wrap IntKind.u64 n)))) (u32s (dg (Int.toNat (IntKind.wrap IntKind.u64 n)))))]) = (D.agg [(D.v (Value.bool (Decidable.decide (n < (0 : Int))))), (D.ro (List.length (ofL n)) (u32s (ofL n)))])))))))))))))))))) (by kernel_rfl) ?_
  simp only [true_and, and_true, and_self, IsInt_lit, IsBool_lit, IsStr_lit, Bool.not_eq_true', Bool.not_eq_false', Bool.not_true, Bool.not_false, Int.reduceLE, Int.reduceLT, Int.reduceNeg, Nat.le_refl, Int.le_refl, Nat.reduceLT, Nat.reduceLeDiff, Nat.reduceEqDiff, D.v.injEq, D.tup.injEq, D.agg.injEq, D.ro.injEq, List.cons.injEq, Value.int.injEq, Value.bool.injEq, pcond_true, pcond_false, NamelessL, Nameless, Nat.reduceMul, Nat.reduceAdd, Nat.zero_add, Int.toNat_natCast, unu_u32s, wrap_u64]
  refine pcond_intro (fun h => ?_) (fun h => ?_)
  · simp only [decide_eq_true_eq] at h
    have e : ((0 - n % 18446744073709551616) % 18446744073709551616).toNat = n.natAbs := by omega
    rw [e]
    exact ⟨⟨by omega, by omega⟩, rfl, rfl⟩
  · simp only [decide_eq_false_iff_not] at h
    have e : (n % 18446744073709551616).toNat = n.natAbs := by omega
    rw [e]
    exact ⟨⟨by omega, by omega⟩, rfl, rfl⟩
def ent_iOf : Ent := fun ds => match ds with
  | [.v (.int .i64 n)] => some (d_int (decide (n < 0)) (ofL n), -9223372036854775808 ≤ n ∧ n < 9223372036854775808)
  | _ => none
theorem ent_iOf_ok : EntOk Try.prog 27 ent_iOf := by
  intro ds d c h hc; unfold ent_iOf at h; split at h
  · obtain ⟨rfl, rfl⟩ := pair_inj h; exact iOf_pure _ hc
  · cases h
end Go.Proofs.Ythnhfkpihbjddaa
