import Derived.Test.YthnhfkpihbjddaaZKv8
import Derived.Test.YthnhfkpihbjddaaZKv9
import Derived.Test.YthnhfkpihbjddaaZKv5
section
namespace Go.Proofs.Ythnhfkpihbjddaa
open Go.VD
set_option linter.unusedVariables false
set_option linter.unusedSimpArgs false
set_option maxRecDepth 100000
def lp_icmpLoop (xs ys : List Nat) : LoopO := loopRule2 (α := Nat) (β := Unit) (γ := Unit) [] (fun k => (xs.length = ys.length ∧ k ≤ xs.length) ∧ cmpTop xs ys k = cmpTop xs ys xs.length) (fun k => [(0, .ro xs.length (u32s xs)), (1, .ro ys.length (u32s ys)), (5, .v (.int .i64 ((k : Int) - 1)))]) (fun _ => []) (xs.length) (fun _ => cmpTop xs ys xs.length = 0) (fun _ => (.exit 0, [], [])) (fun _ => True) (fun _ => (.ret, [(4, .v (.int .i64 (cmpTop xs ys xs.length)))], []))
theorem icmpLoop_rule (xs ys : List Nat) (hpre : xs.length ≤ 1000000000000) : LRuleP Try.prog Try.f65.ntmps (loopAt ((Try.f65.body).getD .skip) 4) (lp_icmpLoop xs ys) := by
  refine lrule_of2 (α := Nat) (β := Unit) (γ := Unit) (call := (addPure 108 ent_isign noCalls)) (lp := fun _ => none) (N := 10) T_ok mixed (addPure_ok ent_isign_ok noCalls_ok) (fun k => k) (by kernel_rfl) (LpAllP.none _) ?_
  intro x hJ
  refine of_eq (B := letI z2 := (((x : Nat) : Int) - (1 : Int)); letI z0 := ((Int.toNat z2) * (1 : Nat)); letI z7 := List.length xs; letI z16 := cmpTop xs ys z7; letI z4 := ([] : List (Option Blk)); letI z1 := (Prod.mk Exit.ret (Prod.mk [(Prod.mk (4 : Nat) (D.v (Value.int IntKind.i64 z16)))] z4)); letI z8 := (Exit.exit (0 : Nat)); letI z10 := ([] : List (Prod Nat D)); letI z3 := (Prod.mk z8 (Prod.mk z10 z4)); letI z5 := (List.getD (u32s xs) z0 (Inhabited.default)); letI z6 := (List.getD (u32s ys) z0 (Inhabited.default)); letI z9 := (List (Option Nat)); letI z18 := List.length ys; letI z11 := (((0 : Int) ≤ z2) ∧ (z2 < ((z18 : Nat) : Int))); letI z12 := ((z0 < (List.length (u32s xs))) ∧ (IsInt IntKind.u32 z5)); letI z13 := ((z0 < (List.length (u32s ys))) ∧ (IsInt IntKind.u32 z6)); letI z14 := (Prod.mk (1 : Nat) (D.ro z18 (u32s ys))); letI z15 := (((0 : Int) ≤ z2) ∧ (z2 < ((z7 : Nat) : Int))); letI z17 := (Prod.mk (0 : Nat) (D.ro z7 (u32s xs))); letI z19 := Bool.true = Bool.true; (True ∧ (True ∧ (pcond (Decidable.decide ((0 : Int) ≤ z2)) (True ∧ (True ∧ (z15 ∧ (z12 ∧ (True ∧ (True ∧ (z11 ∧ (z13 ∧ (True ∧ (z19 ∧ (pcond ((cellInt z5) != (cellInt z6)) (True ∧ (True ∧ (z15 ∧ (z12 ∧ (True ∧ (True ∧ (z11 ∧ (z13 ∧ (True ∧ (True ∧ (True ∧ (z19 ∧ ((∃ (r : Unit), (∃ (kp : z9), ((z16 = (0 : Int)) ∧ ((Exit.ret = z8) ∧ (viewAll kp z10 z4 (Prod.fst (Prod.snd ((fun (x_1 : Unit) => z3) r))) (Prod.snd (Prod.snd ((fun (x_1 : Unit) => z3) r)))))))) ∨ (∃ (r : Unit), (∃ (kp : z9), (True ∧ ((Exit.ret = Exit.ret) ∧ (viewAll kp [(Prod.mk (4 : Nat) (D.v (Value.int IntKind.i64 (ite ((Decidable.decide ((cellInt z5) < (cellInt z6))) = Bool.true) (-(1 : Int)) (1 : Int)))))] z4 (Prod.fst (Prod.snd ((fun (x_1 : Unit) => z1) r))) (Prod.snd (Prod.snd ((fun (x_1 : Unit) => z1) r))))))))))))))))))))) (True ∧ (True ∧ (True ∧ (∃ (y : Nat), (∃ (kp : z9), ((y < x) ∧ ((((z7 = z18) ∧ (y ≤ z7)) ∧ ((cmpTop xs ys y) = z16)) ∧ (viewAll kp [z17, z14, (Prod.mk (5 : Nat) (D.v (Value.int IntKind.i64 (IntKind.wrap IntKind.i64 (z2 - (1 : Int))))))] z4 [z17, z14, (Prod.mk (5 : Nat) (D.v (Value.int IntKind.i64 (((y : Nat) : Int) - (1 : Int)))))] z4))))))))))))))))))) ((∃ (r : Unit), (∃ (kp : z9), ((z16 = (0 : Int)) ∧ ((z8 = z8) ∧ (viewAll kp z10 z4 (Prod.fst (Prod.snd ((fun (x_1 : Unit) => z3) r))) (Prod.snd (Prod.snd ((fun (x_1 : Unit) => z3) r)))))))) ∨ (∃ (r : Unit), (∃ (kp : z9), (True ∧ ((z8 = Exit.ret) ∧ (viewAll kp z10 z4 (Prod.fst (Prod.snd ((fun (x_1 : Unit) => z1) r))) (Prod.snd (Prod.snd ((fun (x_1 : Unit) => z1) r))))))))))))) (by kernel_rfl) ?_
  obtain ⟨⟨hl, hx⟩, ht⟩ := hJ
  have hb := hpre
  simp only [true_and, and_true, and_self, IsInt_lit, IsBool_lit, IsStr_lit, Bool.not_eq_true', Bool.not_eq_false', Bool.not_true, Bool.not_false, Int.reduceLE, Int.reduceLT, Int.reduceNeg, Nat.le_refl, Int.le_refl, Nat.reduceLT, Nat.reduceLeDiff, Nat.reduceEqDiff, D.v.injEq, D.tup.injEq, D.agg.injEq, D.ro.injEq, List.cons.injEq, Value.int.injEq, Value.bool.injEq, pcond_true, pcond_false, NamelessL, Nameless, Nat.reduceMul, Nat.reduceAdd, Nat.zero_add, Int.toNat_natCast]
  refine pcond_intro (fun h => ?_) (fun h => .inl ⟨(), [], ?_, ?_⟩)
  · simp only [decide_eq_true_eq] at h
    obtain ⟨j, rfl⟩ : ∃ j, x = j + 1 := ⟨x - 1, by omega⟩
    have e : ((j + 1 : Nat) : Int) - 1 = (j : Int) := by omega
    have w : IntKind.i64.wrap ((j : Int) - 1) = (j : Int) - 1 := wrap_i64_of (by omega) (by omega)
    simp only [e, w, Int.toNat_natCast, Nat.mul_one, u32s_cell, u32s_length, u32s_isInt _ _ (show j < xs.length by omega), u32s_isInt _ _ (show j < ys.length by omega), and_true, Int.ofNat_lt]
    simp only [tn, cmpTop] at ht
    refine ⟨⟨by omega, by omega⟩, by omega, ⟨by omega, by omega⟩, by omega, pcond_intro (fun h1 => ⟨⟨by omega, by omega⟩, by omega, ⟨by omega, by omega⟩, by omega, .inr ⟨(), [], ?_⟩⟩) (fun h1 => ⟨j, [], by omega, ⟨⟨hl, by omega⟩, ?_⟩, ?_⟩)⟩
    · have hne : xs.getD j 0 ≠ ys.getD j 0 := fun k => by rw [k] at h1; simp at h1
      by_cases h2 : xs.getD j 0 < ys.getD j 0
      · rw [if_pos h2] at ht
        simp only [h2, decide_true, if_true]
        refine of_eq (B := letI z0 := ([] : List (Option Blk)); ((Bool.true = Bool.true) ∧ ((z0 = z0) ∧ ((True ∧ ((D.v (Value.int IntKind.i64 (-(1 : Int)))) = (D.v (Value.int IntKind.i64 (cmpTop xs ys (List.length xs)))))) ∧ True)))) (by kernel_rfl) ?_
        simp [ht]
      · rw [if_neg h2, if_pos (by omega)] at ht
        simp only [h2, decide_false, Bool.false_eq_true, if_false]
        refine of_eq (B := letI z0 := ([] : List (Option Blk)); ((Bool.true = Bool.true) ∧ ((z0 = z0) ∧ ((True ∧ ((D.v (Value.int IntKind.i64 (1 : Int))) = (D.v (Value.int IntKind.i64 (cmpTop xs ys (List.length xs)))))) ∧ True)))) (by kernel_rfl) ?_
        simp [ht]
    · have he : xs.getD j 0 = ys.getD j 0 := by simp only [bne_eq_false_iff_eq] at h1; omega
      rw [if_neg (by omega), if_neg (by omega)] at ht
      exact ht
    · refine of_eq (B := letI z0 := (D.v (Value.int IntKind.i64 (((j : Nat) : Int) - (1 : Int)))); letI z1 := (D.ro (List.length xs) (u32s xs)); letI z2 := (D.ro (List.length ys) (u32s ys)); letI z3 := ([] : List (Option Blk)); ((Bool.true = Bool.true) ∧ ((z3 = z3) ∧ ((True ∧ (z1 = z1)) ∧ ((True ∧ (z2 = z2)) ∧ ((True ∧ (z0 = z0)) ∧ True)))))) (by kernel_rfl) ?_
      simp
  · simp only [decide_eq_false_iff_not] at h
    have : x = 0 := by omega
    subst this
    rw [← ht]; rfl
  · refine of_eq (B := letI z0 := ([] : List (Option Blk)); ((Bool.true = Bool.true) ∧ ((z0 = z0) ∧ True))) (by kernel_rfl) ?_
    simp
theorem icompare_pure (xs ys : List Nat) (hpre : xs.length ≤ 1000000000000) : PureJ Try.prog 65 [.ro xs.length (u32s xs), .ro ys.length (u32s ys)] (.v (.int .i64 (cmpL xs ys))) := by
  refine pureJ_of_vcp (call := (addPure 108 ent_isign noCalls)) (lp := fun k => bif Nat.beq k 4 then some (lp_icmpLoop xs ys) else none) (N := 10) T_ok mixed (addPure_ok ent_isign_ok noCalls_ok) Try.func65 rfl (by decide) (by kernel_rfl) (by kernel_rfl) (of_eq (B := LRuleP Try.prog Try.f65.ntmps (loopAt ((Try.f65.body).getD .skip) 4) (lp_icmpLoop xs ys) ∧ True) (by kernel_rfl) ⟨icmpLoop_rule xs ys hpre, trivial⟩) (by first | trivial | (simp only [NamelessL, Nameless, and_self, and_true, true_and]; done) | (simp [NamelessL, Nameless, u32s_nameless, namelessL_ints]; done)) (by first | trivial | (simp only [NamelessL, Nameless, and_self, and_true, true_and]; done) | (simp [NamelessL, Nameless, u32s_nameless, namelessL_ints]; done)) ?_
  refine of_eq (B := letI z0 := List.length xs; letI z1 := (D.v (Value.int IntKind.i64 (cmpL xs ys))); letI z2 := List.length ys; letI z3 := ((z0 : Nat) : Int); letI z4 := cmpTop xs ys z0; letI z5 := ([] : List (Option Blk)); letI z6 := (D.ro z0 (u32s xs)); letI z7 := (D.ro z2 (u32s ys)); (True ∧ (True ∧ (True ∧ (True ∧ (True ∧ (True ∧ (pcond (z3 != ((z2 : Nat) : Int)) (True ∧ (True ∧ (True ∧ (True ∧ (True ∧ (True ∧ (True ∧ (True ∧ (True ∧ ((D.v (Value.int IntKind.i64 (ite ((Decidable.decide (z3 < ((z2 : Nat) : Int))) = Bool.true) (-(1 : Int)) (1 : Int)))) = z1)))))))))) (True ∧ (True ∧ (True ∧ (True ∧ ((((z0 = z2) ∧ (z0 ≤ z0)) ∧ (z4 = z4)) ∧ (((Bool.true = Bool.true) ∧ ((z5 = z5) ∧ ((True ∧ (z6 = z6)) ∧ ((True ∧ (z7 = z7)) ∧ ((True ∧ ((D.v (Value.int IntKind.i64 (IntKind.wrap IntKind.i64 (z3 - (1 : Int))))) = (D.v (Value.int IntKind.i64 (z3 - (1 : Int)))))) ∧ True))))) ∧ ((Unit → ((z4 = (0 : Int)) → (True ∧ (True ∧ (True ∧ ((D.v (Value.int IntKind.i64 (0 : Int))) = z1)))))) ∧ (Unit → (True → (True ∧ (True ∧ ((D.v (Value.int IntKind.i64 z4)) = z1)))))))))))))))))))) (by kernel_rfl) ?_
  simp only [true_and, and_true, and_self, IsInt_lit, IsBool_lit, IsStr_lit, Bool.not_eq_true', Bool.not_eq_false', Bool.not_true, Bool.not_false, Int.reduceLE, Int.reduceLT, Int.reduceNeg, Nat.le_refl, Int.le_refl, Nat.reduceLT, Nat.reduceLeDiff, Nat.reduceEqDiff, D.v.injEq, D.tup.injEq, D.agg.injEq, D.ro.injEq, List.cons.injEq, Value.int.injEq, Value.bool.injEq, pcond_true, pcond_false, NamelessL, Nameless, Nat.reduceMul, Nat.reduceAdd, Nat.zero_add, Int.toNat_natCast]
  refine pcond_intro (fun h => ?_) (fun h => ?_)
  · have hne : xs.length ≠ ys.length := by simp at h; omega
    by_cases h1 : xs.length < ys.length
    · simp [cmpL, hne, h1]
    · simp [cmpL, hne, h1]
  · have he : xs.length = ys.length := by simp at h; omega
    refine ⟨he, wrap_i64_of (by omega) (by omega), fun _ h => ?_, fun _ _ => ?_⟩
    · simp [cmpL, he]; rw [← he]; exact h.symm
    · simp [cmpL, he]
def ent_icompare : Ent := fun ds => match ds with
  | [.ro n_xs ys_xs, .ro n_ys ys_ys] => some (.v (.int .i64 (cmpL (unu ys_xs) (unu ys_ys))), (ys_ys = u32s (unu ys_ys) ∧ n_ys = (unu ys_ys).length) ∧ (ys_xs = u32s (unu ys_xs) ∧ n_xs = (unu ys_xs).length) ∧ (unu ys_xs).length ≤ 1000000000000)
  | _ => none
theorem ent_icompare_ok : EntOk Try.prog 65 ent_icompare := by
  intro ds d c h hc; unfold ent_icompare at h; split at h
  · rename_i n_xs ys_xs n_ys ys_ys; obtain ⟨rfl, rfl⟩ := pair_inj h
    obtain ⟨⟨h1, h2⟩, hc⟩ := hc; subst h2; generalize (unu ys_ys) = ys at *; subst h1
    obtain ⟨⟨h1, h2⟩, hc⟩ := hc; subst h2; generalize (unu ys_xs) = xs at *; subst h1
    exact icompare_pure xs ys hc
  · cases h
theorem iadd32_pure (x y c : Int) (hpre : (0 ≤ x ∧ x < 4294967296) ∧ (0 ≤ y ∧ y < 4294967296) ∧ 0 ≤ c ∧ c ≤ 1) : PureJ Try.prog 95 [.v (.int .u32 x), .v (.int .u32 y), .v (.int .u32 c)] (.tup [.v (.int .u32 ((x + y + c) % 4294967296)), .v (.int .u32 ((x + y + c) / 4294967296))]) := by
  refine pureJ_of_vcx (call := noCalls) (lp := fun _ => none) (N := 10) T_ok mixed noCalls_ok Try.func95 rfl (by decide) (by kernel_rfl) (by kernel_rfl) (LpAll.none _) (by first | trivial | (simp only [NamelessL, Nameless, and_self, and_true, true_and]; done) | (simp [NamelessL, Nameless, u32s_nameless, namelessL_ints]; done)) (by first | trivial | (simp only [NamelessL, Nameless, and_self, and_true, true_and]; done) | (simp [NamelessL, Nameless, u32s_nameless, namelessL_ints]; done)) ?_
  refine of_eq (B := letI z0 := (IntKind.wrap IntKind.u64 ((IntKind.wrap IntKind.u64 ((IntKind.wrap IntKind.u64 x) + (IntKind.wrap IntKind.u64 y))) + (IntKind.wrap IntKind.u64 c))); letI z1 := (4294967296 : Int); (True ∧ (True ∧ (True ∧ (True ∧ (True ∧ (True ∧ (True ∧ (True ∧ (True ∧ (True ∧ (True ∧ (True ∧ (True ∧ (True ∧ (True ∧ (((0 : Int) ≤ (32 : Int)) ∧ (True ∧ (True ∧ (True ∧ ((True ∧ (True ∧ True)) ∧ ((D.tup [(D.v (Value.int IntKind.u32 (IntKind.wrap IntKind.u32 z0))), (D.v (Value.int IntKind.u32 (IntKind.wrap IntKind.u32 (Int.fdiv z0 z1))))]) = (D.tup [(D.v (Value.int IntKind.u32 (((x + y) + c) % z1))), (D.v (Value.int IntKind.u32 (((x + y) + c) / z1)))]))))))))))))))))))))))) (by kernel_rfl) ?_
  simp only [true_and, and_true, and_self, IsInt_lit, IsBool_lit, IsStr_lit, Bool.not_eq_true', Bool.not_eq_false', Bool.not_true, Bool.not_false, Int.reduceLE, Int.reduceLT, Int.reduceNeg, Nat.le_refl, Int.le_refl, Nat.reduceLT, Nat.reduceLeDiff, Nat.reduceEqDiff, D.v.injEq, D.tup.injEq, D.agg.injEq, D.ro.injEq, List.cons.injEq, Value.int.injEq, Value.bool.injEq, pcond_true, pcond_false, NamelessL, Nameless, Nat.reduceMul, Nat.reduceAdd, Nat.zero_add, Int.toNat_natCast, wrap_u64, wrap_u32]
  obtain ⟨hx, hy, hc⟩ := hpre
  rw [Int.fdiv_eq_ediv_of_nonneg _ (by omega)]
  omega
def ent_iadd32 : Ent := fun ds => match ds with
  | [.v (.int .u32 x), .v (.int .u32 y), .v (.int .u32 c)] => some (.tup [.v (.int .u32 ((x + y + c) % 4294967296)), .v (.int .u32 ((x + y + c) / 4294967296))], (0 ≤ x ∧ x < 4294967296) ∧ (0 ≤ y ∧ y < 4294967296) ∧ 0 ≤ c ∧ c ≤ 1)
  | _ => none
theorem ent_iadd32_ok : EntOk Try.prog 95 ent_iadd32 := by
  intro ds d c h hc; unfold ent_iadd32 at h; split at h
  · obtain ⟨rfl, rfl⟩ := pair_inj h; exact iadd32_pure _ _ _ hc
  · cases h
theorem isub32_pure (x y c : Int) (hpre : (0 ≤ x ∧ x < 4294967296) ∧ (0 ≤ y ∧ y < 4294967296) ∧ 0 ≤ c ∧ c ≤ 1) : PureJ Try.prog 97 [.v (.int .u32 x), .v (.int .u32 y), .v (.int .u32 c)] (.tup [.v (.int .u32 ((x - y - c) % 4294967296)), .v (.int .u32 (if x < y + c then 1 else 0))]) := by
  refine pureJ_of_vcx (call := noCalls) (lp := fun _ => none) (N := 10) T_ok mixed noCalls_ok Try.func97 rfl (by decide) (by kernel_rfl) (by kernel_rfl) (LpAll.none _) (by first | trivial | (simp only [NamelessL, Nameless, and_self, and_true, true_and]; done) | (simp [NamelessL, Nameless, u32s_nameless, namelessL_ints]; done)) (by first | trivial | (simp only [NamelessL, Nameless, and_self, and_true, true_and]; done) | (simp [NamelessL, Nameless, u32s_nameless, namelessL_ints]; done)) ?_
  refine of_eq (B := letI z0 := (IntKind.wrap IntKind.u32 ((IntKind.wrap IntKind.u32 (x - y)) - c)); (True ∧ (True ∧ (True ∧ (True ∧ (True ∧ (True ∧ (True ∧ (True ∧ (True ∧ (True ∧ (True ∧ (True ∧ (True ∧ (True ∧ (True ∧ (True ∧ (True ∧ (True ∧ (True ∧ (((0 : Int) ≤ (31 : Int)) ∧ (True ∧ (True ∧ ((True ∧ (True ∧ True)) ∧ ((D.tup [(D.v (Value.int IntKind.u32 z0)), (D.v (Value.int IntKind.u32 (Int.fdiv (bits BinOp.or IntKind.u32 (bits BinOp.and IntKind.u32 (bits BinOp.xor IntKind.u32 (4294967295 : Int) x) y) (bits BinOp.and IntKind.u32 (bits BinOp.xor IntKind.u32 (4294967295 : Int) (bits BinOp.xor IntKind.u32 x y)) z0)) (2147483648 : Int))))]) = (D.tup [(D.v (Value.int IntKind.u32 (((x - y) - c) % (4294967296 : Int)))), (D.v (Value.int IntKind.u32 (ite (x < (y + c)) (1 : Int) (0 : Int))))])))))))))))))))))))))))))) (by kernel_rfl) ?_
  simp only [true_and, and_true, and_self, IsInt_lit, IsBool_lit, IsStr_lit, Bool.not_eq_true', Bool.not_eq_false', Bool.not_true, Bool.not_false, Int.reduceLE, Int.reduceLT, Int.reduceNeg, Nat.le_refl, Int.le_refl, Nat.reduceLT, Nat.reduceLeDiff, Nat.reduceEqDiff, D.v.injEq, D.tup.injEq, D.agg.injEq, D.ro.injEq, List.cons.injEq, Value.int.injEq, Value.bool.injEq, pcond_true, pcond_false, NamelessL, Nameless, Nat.reduceMul, Nat.reduceAdd, Nat.zero_add, Int.toNat_natCast, wrap_u32]
  obtain ⟨⟨x0, hx⟩, ⟨y0, hy⟩, c0, hc⟩ := hpre
  obtain ⟨x, rfl⟩ := Int.eq_ofNat_of_zero_le x0
  obtain ⟨y, rfl⟩ := Int.eq_ofNat_of_zero_le y0
  obtain ⟨c, rfl⟩ := Int.eq_ofNat_of_zero_le c0
  refine ⟨by omega, ?_⟩
  have e : (((x : Int) - y) % 4294967296 - c) % 4294967296 = (((x + 8589934592 - y - c) % 4294967296 : Nat) : Int) := by omega
  have n1 : (4294967295 ^^^ x) < 2 ^ 32 := Nat.xor_lt_two_pow (by omega) (by omega)
  have n2 : (x ^^^ y) < 2 ^ 32 := Nat.xor_lt_two_pow (by omega) (by omega)
  have n3 : (4294967295 ^^^ (x ^^^ y)) < 2 ^ 32 := Nat.xor_lt_two_pow (by omega) n2
  have hb := borrow32 x y c ((x + 8589934592 - y - c) % 4294967296) (by omega) (by omega) (by omega) rfl
  have n4 : (x + 8589934592 - y - c) % 4294967296 < 4294967296 := Nat.mod_lt _ (by decide)
  rw [e]
  generalize (x + 8589934592 - y - c) % 4294967296 = d at *
  have n5 : (4294967295 ^^^ x) &&& y < 2 ^ 32 := Nat.and_lt_two_pow _ (by omega)
  have n6 : (4294967295 ^^^ (x ^^^ y)) &&& d < 2 ^ 32 := Nat.and_lt_two_pow _ (by omega)
  rw [show (4294967295 : Int) = ((4294967295 : Nat) : Int) from rfl, bits_xor_u32_nat 4294967295 x (by omega) (by omega), bits_and_u32_nat _ y (by omega) (by omega), bits_xor_u32_nat x y (by omega) (by omega), bits_xor_u32_nat 4294967295 _ (by omega) (by omega), bits_and_u32_nat _ d (by omega) (by omega), bits_or_u32_nat _ _ (by omega) (by omega)]
  rw [Int.fdiv_eq_ediv_of_nonneg _ (by omega)]
  generalize (((4294967295 ^^^ x) &&& y) ||| ((4294967295 ^^^ (x ^^^ y)) &&& d)) = r at *
  by_cases h : x < y + c
  · rw [if_pos h] at hb
    rw [if_pos (by omega)]; omega
  · rw [if_neg h] at hb
    rw [if_neg (by omega)]; omega
def ent_isub32 : Ent := fun ds => match ds with
  | [.v (.int .u32 x), .v (.int .u32 y), .v (.int .u32 c)] => some (.tup [.v (.int .u32 ((x - y - c) % 4294967296)), .v (.int .u32 (if x < y + c then 1 else 0))], (0 ≤ x ∧ x < 4294967296) ∧ (0 ≤ y ∧ y < 4294967296) ∧ 0 ≤ c ∧ c ≤ 1)
  | _ => none
theorem ent_isub32_ok : EntOk Try.prog 97 ent_isub32 := by
  intro ds d c h hc; unfold ent_isub32 at h; split at h
  · obtain ⟨rfl, rfl⟩ := pair_inj h; exact isub32_pure _ _ _ hc
  · cases h
theorem set_mid (l : List Nat) (k d : Nat) : (l ++ List.replicate (k + 1) 0).set l.length d = (l ++ [d]) ++ List.replicate k 0 := by
  simp [List.set_append_right, List.replicate_succ]
theorem set_mid' (l : List Nat) {i n : Nat} (hl : l.length = i) (d : Nat) (h : i < n) : (l ++ List.replicate (n - i) 0).set i d = (l ++ [d]) ++ List.replicate (n - (i + 1)) 0 := by
  subst hl
  rw [show n - l.length = (n - (l.length + 1)) + 1 by omega]
  exact set_mid l _ d
def addZ (S M i : Nat) : List Nat := dgn i S ++ List.replicate (M + 1 - i) 0
def lp_iaddLoop (xs ys : List Nat) : LoopO := loopRule (α := Nat × Nat) (β := Unit) [some 0] (fun s => s.1 ≤ plusM xs ys ∧ PlusJ xs ys s.1 s.2) (fun s => [(0, .ro xs.length (u32s xs)), (1, .ro ys.length (u32s ys)), (5, .v (.int .i64 (plusM xs ys : Nat))), (6, d_out (plusM xs ys + 1)), (7, .v (.int .u32 (s.2 : Int))), (17, .v (.int .i64 (plusM xs ys : Nat))), (18, .v (.int .i64 (s.1 : Int)))]) (fun s => d_blk (addZ (nv xs + nv ys) (plusM xs ys) s.1)) ((0, 0)) (fun _ => True) (fun _ => (.exit 0, [(5, .v (.int .i64 (plusM xs ys : Nat))), (6, d_out (plusM xs ys + 1)), (7, .v (.int .u32 ((nv xs + nv ys) / 4294967296 ^ plusM xs ys : Nat)))], d_blk (addZ (nv xs + nv ys) (plusM xs ys) (plusM xs ys))))
theorem iaddLoop_rule (xs ys : List Nat) (hpre : xs.length ≤ 400000 ∧ ys.length ≤ 400000 ∧ Dig xs ∧ Dig ys) : LRuleP Try.prog Try.f52.ntmps (loopAt ((Try.f52.body).getD .skip) 5) (lp_iaddLoop xs ys) := by
  refine lrule_of (α := Nat × Nat) (β := Unit) (call := (addPure 96 ent_iat (addPure 95 ent_iadd32 noCalls))) (lp := fun _ => none) (N := 10) T_ok mixed (addPure_ok ent_iat_ok (addPure_ok ent_iadd32_ok noCalls_ok)) (fun s => plusM xs ys - s.1) (by kernel_rfl) (LpAllP.none _) ?_
  intro x hJ
  refine of_eq (B := letI z0 := (((Prod.fst x) : Nat) : Int); letI z15 := (Exit.exit (0 : Nat)); letI z18 := (((plusM xs ys) : Nat) : Int); letI z2 := (D.v (Value.int IntKind.i64 z18)); letI z9 := (Prod.mk (5 : Nat) z2); letI z7 := ((plusM xs ys) + (1 : Nat)); letI z17 := (Prod.mk (6 : Nat) (d_out z7)); letI z12 := ((nv xs) + (nv ys)); letI z1 := (Prod.mk z15 (Prod.mk [z9, z17, (Prod.mk (7 : Nat) (D.v (Value.int IntKind.u32 (((z12 / ((4294967296 : Nat) ^ (plusM xs ys))) : Nat) : Int))))] (d_blk (addZ z12 (plusM xs ys) (plusM xs ys))))); letI z19 := (unu (u32s xs)); letI z21 := Int.toNat z0; letI z3 := (((List.getD z19 z21 (0 : Nat)) : Nat) : Int); letI z20 := (unu (u32s ys)); letI z4 := (((List.getD z20 z21 (0 : Nat)) : Nat) : Int); letI z5 := (u32s (addZ z12 (plusM xs ys) (Prod.fst x))); letI z6 := (((Prod.snd x) : Nat) : Int); letI z8 := (Prod.mk (6 : Nat) (D.sl (0 : Nat) (0 : Nat) z7 (Cap.toEnd (1 : Nat)))); letI z10 := (Prod.mk (0 : Nat) (D.ro (List.length xs) (u32s xs))); letI z11 := (Prod.mk (1 : Nat) (D.ro (List.length ys) (u32s ys))); letI z13 := (4294967296 : Int); letI z14 := ((0 : Nat) + (z21 * (1 : Nat))); letI z16 := ((0 : Int) ≤ z0); letI z22 := (Prod.mk (17 : Nat) z2); letI z23 := (List (Option Nat)); (True ∧ (pcond (Decidable.decide (z0 < z18)) (True ∧ (True ∧ (True ∧ (True ∧ (True ∧ (True ∧ (((((u32s xs) = (u32s z19)) ∧ ((List.length xs) = (List.length z19))) ∧ z16) ∧ (True ∧ (True ∧ (((((u32s ys) = (u32s z20)) ∧ ((List.length ys) = (List.length z20))) ∧ z16) ∧ (True ∧ (((((0 : Int) ≤ z3) ∧ (z3 < z13)) ∧ ((((0 : Int) ≤ z4) ∧ (z4 < z13)) ∧ (((0 : Int) ≤ z6) ∧ (z6 ≤ (1 : Int))))) ∧ (True ∧ (True ∧ (True ∧ ((z16 ∧ (z0 < ((z7 : Nat) : Int))) ∧ ((((1 : Nat) = (1 : Nat)) ∧ ((z14 + (1 : Nat)) ≤ (List.length z5))) ∧ (True ∧ (True ∧ (True ∧ (∃ (y : (Prod Nat Nat)), (∃ (kp : z23), ((((plusM xs ys) - (Prod.fst y)) < ((plusM xs ys) - (Prod.fst x))) ∧ ((((Prod.fst y) ≤ (plusM xs ys)) ∧ (PlusJ xs ys (Prod.fst y) (Prod.snd y))) ∧ (viewAll kp [z10, z11, z9, z8, (Prod.mk (7 : Nat) (D.v (Value.int IntKind.u32 (((z3 + z4) + z6) / z13)))), z22, (Prod.mk (18 : Nat) (D.v (Value.int IntKind.i64 (IntKind.wrap IntKind.i64 (z0 + (1 : Int))))))] [(Option.some (Blk.mk (41 : Nat) (List.set z5 z14 (D.v (Value.int IntKind.u32 (((z3 + z4) + z6) % z13)))) Bool.true))] [z10, z11, z9, z17, (Prod.mk (7 : Nat) (D.v (Value.int IntKind.u32 (((Prod.snd y) : Nat) : Int)))), z22, (Prod.mk (18 : Nat) (D.v (Value.int IntKind.i64 (((Prod.fst y) : Nat) : Int))))] (d_blk (addZ z12 (plusM xs ys) (Prod.fst y)))))))))))))))))))))))))))) (∃ (r : Unit), (∃ (kp : z23), (True ∧ ((z15 = z15) ∧ (viewAll kp [z9, z8, (Prod.mk (7 : Nat) (D.v (Value.int IntKind.u32 z6)))] [(Option.some (Blk.mk (41 : Nat) z5 Bool.true))] (Prod.fst (Prod.snd ((fun (x_1 : Unit) => z1) r))) (Prod.snd (Prod.snd ((fun (x_1 : Unit) => z1) r))))))))))) (by kernel_rfl) ?_
  simp only [true_and, and_true, and_self, IsInt_lit, IsBool_lit, IsStr_lit, Bool.not_eq_true', Bool.not_eq_false', Bool.not_true, Bool.not_false, Int.reduceLE, Int.reduceLT, Int.reduceNeg, Nat.le_refl, Int.le_refl, Nat.reduceLT, Nat.reduceLeDiff, Nat.reduceEqDiff, D.v.injEq, D.tup.injEq, D.agg.injEq, D.ro.injEq, List.cons.injEq, Value.int.injEq, Value.bool.injEq, pcond_true, pcond_false, NamelessL, Nameless, Nat.reduceMul, Nat.reduceAdd, Nat.zero_add, Int.toNat_natCast]
  obtain ⟨hbx, hby, hdx, hdy⟩ := hpre
  obtain ⟨i, c⟩ := x
  obtain ⟨hi, hJ⟩ := hJ
  simp only at hi hJ
  have hst := plus_step hdx hdy hJ
  have hc := hJ.hc
  have mx : plusM xs ys ≤ 400000 := by unfold plusM; omega
  have hx := hdx.get i
  have hy := hdy.get i
  have hw : IntKind.i64.wrap ((i : Int) + 1) = ((i + 1 : Nat) : Int) := by rw [wrap_i64_of (by omega) (by omega)]; omega
  have hzl : (addZ (nv xs + nv ys) (plusM xs ys) i).length = plusM xs ys + 1 := by unfold addZ; rw [List.length_append, dgn_length, List.length_replicate]; omega
  simp only [true_and, and_true, and_self, IsInt_lit, IsBool_lit, IsStr_lit, Bool.not_eq_true', Bool.not_eq_false', Bool.not_true, Bool.not_false, Int.reduceLE, Int.reduceLT, Int.reduceNeg, Nat.le_refl, Int.le_refl, Nat.reduceLT, Nat.reduceLeDiff, Nat.reduceEqDiff, D.v.injEq, D.tup.injEq, D.agg.injEq, D.ro.injEq, List.cons.injEq, Value.int.injEq, Value.bool.injEq, pcond_true, pcond_false, NamelessL, Nameless, Nat.reduceMul, Nat.reduceAdd, Nat.zero_add, Int.toNat_natCast, Nat.mul_one, unu_u32s, u32s_length, hzl, hw]
  refine pcond_intro (fun h => ?_) (fun h => ?_)
  · simp only [decide_eq_true_eq] at h
    have hlt : i < xs.length ∨ i < ys.length := by unfold plusM at h; omega
    obtain ⟨k1, k2, k3⟩ := hst (by omega)
    have f1 : ((xs.getD i 0 : Int) + (ys.getD i 0 : Int) + (c : Int)) % 4294967296 = (((c + xs.getD i 0 + ys.getD i 0) % 4294967296 : Nat) : Int) := by omega
    have f2 : ((xs.getD i 0 : Int) + (ys.getD i 0 : Int) + (c : Int)) / 4294967296 = (((c + xs.getD i 0 + ys.getD i 0) / 4294967296 : Nat) : Int) := by omega
    have hz : (addZ (nv xs + nv ys) (plusM xs ys) i).set i ((c + xs.getD i 0 + ys.getD i 0) % 4294967296) = addZ (nv xs + nv ys) (plusM xs ys) (i + 1) := by
      unfold addZ
      rw [set_mid' _ (dgn_length _ _) _ (by omega), ← k3]
    simp only [f1, f2, u32s_put, hz]
    refine ⟨by omega, by omega, ⟨⟨by omega, by omega⟩, ⟨by omega, by omega⟩, by omega, by omega⟩, ⟨by omega, by omega⟩, by omega, (i + 1, (c + xs.getD i 0 + ys.getD i 0) / 4294967296), [some 0], by simp only; omega, ⟨by simp only; omega, k2⟩, ?_⟩
    refine of_eq (B := letI z0 := (D.v (Value.int IntKind.i64 (((plusM xs ys) : Nat) : Int))); letI z1 := (D.v (Value.int IntKind.u32 (((((c + (List.getD xs i (0 : Nat))) + (List.getD ys i (0 : Nat))) / (4294967296 : Nat)) : Nat) : Int))); letI z2 := (u32s (addZ ((nv xs) + (nv ys)) (plusM xs ys) (i + (1 : Nat)))); letI z3 := (D.sl (0 : Nat) (0 : Nat) ((plusM xs ys) + (1 : Nat)) (Cap.toEnd (1 : Nat))); letI z4 := (D.v (Value.int IntKind.i64 (((i + (1 : Nat)) : Nat) : Int))); letI z5 := (Option.some (Blk.mk (41 : Nat) z2 Bool.true)); letI z6 := (D.ro (List.length xs) (u32s xs)); letI z7 := (D.ro (List.length ys) (u32s ys)); letI z8 := ([] : List (Option Blk)); letI z9 := (True ∧ (z0 = z0)); ((Bool.true = Bool.true) ∧ ((((z5 = z5) ∧ (NamelessL z2)) ∧ (z8 = z8)) ∧ ((True ∧ (z6 = z6)) ∧ ((True ∧ (z7 = z7)) ∧ (z9 ∧ ((True ∧ (z3 = z3)) ∧ ((True ∧ (z1 = z1)) ∧ (z9 ∧ ((True ∧ (z4 = z4)) ∧ True)))))))))) (by kernel_rfl) ?_
    simp [u32s_nameless]
  · simp only [decide_eq_false_iff_not] at h
    have hi2 : i = plusM xs ys := by omega
    have he := hJ.eq
    rw [nv_drop_ge (by rw [hi2]; exact Nat.le_max_left _ _), nv_drop_ge (by rw [hi2]; exact Nat.le_max_right _ _)] at he
    subst hi2
    have he : c = (nv xs + nv ys) / 4294967296 ^ plusM xs ys := by omega
    rw [← he]
    refine ⟨(), [some 0], ?_⟩
    refine of_eq (B := letI z0 := (u32s (addZ ((nv xs) + (nv ys)) (plusM xs ys) (plusM xs ys))); letI z1 := (D.sl (0 : Nat) (0 : Nat) ((plusM xs ys) + (1 : Nat)) (Cap.toEnd (1 : Nat))); letI z2 := (D.v (Value.int IntKind.i64 (((plusM xs ys) : Nat) : Int))); letI z3 := (D.v (Value.int IntKind.u32 ((c : Nat) : Int))); letI z4 := (Option.some (Blk.mk (41 : Nat) z0 Bool.true)); letI z5 := ([] : List (Option Blk)); ((Bool.true = Bool.true) ∧ ((((z4 = z4) ∧ (NamelessL z0)) ∧ (z5 = z5)) ∧ ((True ∧ (z2 = z2)) ∧ ((True ∧ (z1 = z1)) ∧ ((True ∧ (z3 = z3)) ∧ True)))))) (by kernel_rfl) ?_
    simp [u32s_nameless]
theorem iadd_pure (xs ys : List Nat) (hpre : xs.length ≤ 400000 ∧ ys.length ≤ 400000 ∧ Dig xs ∧ Dig ys) : PureJ Try.prog 52 [.ro xs.length (u32s xs), .ro ys.length (u32s ys)] (.ro (dg (nv xs + nv ys)).length (u32s (dg (nv xs + nv ys)))) := by
  refine pureJ_of_vcp (call := (addPure 89 ent_itrim noCalls)) (lp := fun k => bif Nat.beq k 5 then some (lp_iaddLoop xs ys) else none) (N := 10) T_ok mixed (addPure_ok ent_itrim_ok noCalls_ok) Try.func52 rfl (by decide) (by kernel_rfl) (by kernel_rfl) (of_eq (B := LRuleP Try.prog Try.f52.ntmps (loopAt ((Try.f52.body).getD .skip) 5) (lp_iaddLoop xs ys) ∧ True) (by kernel_rfl) ⟨iaddLoop_rule xs ys hpre, trivial⟩) (by first | trivial | (simp only [NamelessL, Nameless, and_self, and_true, true_and]; done) | (simp [NamelessL, Nameless, u32s_nameless, namelessL_ints]; done)) (by first | trivial | (simp only [NamelessL, Nameless, and_self, and_true, true_and]; done) | (simp [NamelessL, Nameless, u32s_nameless, namelessL_ints]; done)) ?_
  refine of_eq (B := letI z7 := ((nv xs) + (nv ys)); letI z9 := (u32s (addZ z7 (plusM xs ys) (plusM xs ys))); letI z5 := (((plusM xs ys) : Nat) : Int); letI z10 := ((0 : Nat) + ((Int.toNat z5) * (1 : Nat))); letI z0 := (List.set z9 z10 (D.v (Value.int IntKind.u32 (((z7 / ((4294967296 : Nat) ^ (plusM xs ys))) : Nat) : Int)))); letI z8 := (Max.max (((List.length xs) : Nat) : Int) (((List.length ys) : Nat) : Int)); letI z1 := (IntKind.wrap IntKind.i64 (z8 + (1 : Int))); letI z6 := ((plusM xs ys) + (1 : Nat)); letI z2 := (List.take (z6 * (1 : Nat)) (List.drop (0 : Nat) z0)); letI z3 := (True ∧ ((D.v (Value.int IntKind.i64 z8)) = (D.v (Value.int IntKind.i64 z5)))); letI z4 := (D.v (Value.int IntKind.u32 (0 : Int))); letI z11 := (D.v (Value.int IntKind.i64 (0 : Int))); letI z12 := (List.replicate (Int.toNat z1) z4); letI z13 := (D.ro (List.length xs) (u32s xs)); letI z14 := (D.ro (List.length ys) (u32s ys)); letI z15 := ([] : List (Option Blk)); letI z16 := (List.length (unu z2)); letI z17 := (Cap.toEnd (1 : Nat)); (True ∧ (True ∧ (True ∧ (True ∧ (True ∧ (True ∧ (True ∧ (True ∧ (True ∧ ((((0 : Int) ≤ z1) ∧ ((z1 ≤ z1) ∧ ((((4 : Int) * z1) ≤ (281474976710656 : Int)) ∧ (z1 ≤ (9223372036854775807 : Int))))) ∧ (True ∧ (True ∧ (True ∧ (True ∧ ((((0 : Nat) ≤ (plusM xs ys)) ∧ (PlusJ xs ys (0 : Nat) (0 : Nat))) ∧ (((Bool.true = Bool.true) ∧ (((((Option.some (Blk.mk (41 : Nat) (u32s (addZ z7 (plusM xs ys) (0 : Nat))) Bool.true)) = (Option.some (Blk.mk (41 : Nat) z12 Bool.true))) ∧ (NamelessL z12)) ∧ (z15 = z15)) ∧ ((True ∧ (z13 = z13)) ∧ ((True ∧ (z14 = z14)) ∧ (z3 ∧ ((True ∧ ((D.sl (0 : Nat) (0 : Nat) (Int.toNat z1) z17) = (D.sl (0 : Nat) (0 : Nat) z6 z17))) ∧ ((True ∧ (z4 = z4)) ∧ (z3 ∧ ((True ∧ (z11 = z11)) ∧ True))))))))) ∧ (Unit → (True → (True ∧ (True ∧ (True ∧ ((((0 : Int) ≤ z5) ∧ (z5 < ((z6 : Nat) : Int))) ∧ ((((1 : Nat) = (1 : Nat)) ∧ ((z10 + (1 : Nat)) ≤ (List.length z9))) ∧ (True ∧ (((((NamelessL z0) ∧ (((0 : Nat) < (1 : Nat)) ∧ (((0 : Nat) + (z6 * (1 : Nat))) ≤ (List.length z0)))) ∧ True) ∧ (((z2 = (u32s (unu z2))) ∧ (z6 = z16)) ∧ (z16 ≤ (1000000 : Nat)))) ∧ (True ∧ (True ∧ (True ∧ ((D.ro (List.length (trimL (unu z2))) (u32s (trimL (unu z2)))) = (D.ro (List.length (dg z7)) (u32s (dg z7))))))))))))))))))))))))))))))))) (by kernel_rfl) ?_
  simp only [true_and, and_true, and_self, IsInt_lit, IsBool_lit, IsStr_lit, Bool.not_eq_true', Bool.not_eq_false', Bool.not_true, Bool.not_false, Int.reduceLE, Int.reduceLT, Int.reduceNeg, Nat.le_refl, Int.le_refl, Nat.reduceLT, Nat.reduceLeDiff, Nat.reduceEqDiff, D.v.injEq, D.tup.injEq, D.agg.injEq, D.ro.injEq, List.cons.injEq, Value.int.injEq, Value.bool.injEq, pcond_true, pcond_false, NamelessL, Nameless, Nat.reduceMul, Nat.reduceAdd, Nat.zero_add, Int.toNat_natCast, unu_u32s]
  obtain ⟨hbx, hby, hdx, hdy⟩ := hpre
  have mx : plusM xs ys ≤ 400000 := by unfold plusM; omega
  have hm : max (xs.length : Int) (ys.length : Int) = (plusM xs ys : Nat) := by unfold plusM; omega
  have hw : IntKind.i64.wrap ((plusM xs ys : Nat) + 1 : Int) = ((plusM xs ys + 1 : Nat) : Int) := by rw [wrap_i64_of (by omega) (by omega)]; omega
  have hr : List.replicate (plusM xs ys + 1) (D.v (Value.int IntKind.u32 0)) = u32s (List.replicate (plusM xs ys + 1) 0) := u32s_replicate _ 0
  have hc : (nv xs + nv ys) / 4294967296 ^ plusM xs ys < 4294967296 := by
    have := plus_lt hdx hdy
    rw [Nat.pow_succ] at this
    exact Nat.div_lt_of_lt_mul this
  have hz : (addZ (nv xs + nv ys) (plusM xs ys) (plusM xs ys)).set (plusM xs ys) ((nv xs + nv ys) / 4294967296 ^ plusM xs ys) = dgn (plusM xs ys + 1) (nv xs + nv ys) := by
    unfold addZ
    rw [set_mid' _ (dgn_length _ _) _ (by omega), dgn_succ, Nat.mod_eq_of_lt hc]
    simp
  have ht : trimL (dgn (plusM xs ys + 1) (nv xs + nv ys)) = dg (nv xs + nv ys) := trimL_dgn (plus_lt hdx hdy)
  have e : List.take (plusM xs ys + 1) (u32s (dgn (plusM xs ys + 1) (nv xs + nv ys))) = u32s (dgn (plusM xs ys + 1) (nv xs + nv ys)) := by
    rw [u32s_take]; congr 1; exact List.take_of_length_le (by rw [dgn_length]; exact Nat.le_refl _)
  have hzl : (addZ (nv xs + nv ys) (plusM xs ys) (plusM xs ys)).length = plusM xs ys + 1 := by unfold addZ; rw [List.length_append, dgn_length, List.length_replicate]; omega
  simp only [hm, hw, Int.toNat_natCast, hr, Nat.mul_one, u32s_put, hz, List.drop_zero, e, unu_u32s, ht, u32s_length, dgn_length, hzl]
  refine ⟨⟨by omega, by omega, by omega⟩, ⟨by omega, ⟨by omega, by omega, by simp, by omega⟩⟩, by simp [addZ, dgn, u32s_nameless], fun _ _ => ⟨⟨by omega, by omega⟩, by omega, ?_⟩⟩
  simp [u32s_nameless]; omega
def ent_iadd : Ent := fun ds => match ds with
  | [.ro n_xs ys_xs, .ro n_ys ys_ys] => some (.ro (dg (nv (unu ys_xs) + nv (unu ys_ys))).length (u32s (dg (nv (unu ys_xs) + nv (unu ys_ys)))), (ys_ys = u32s (unu ys_ys) ∧ n_ys = (unu ys_ys).length) ∧ (ys_xs = u32s (unu ys_xs) ∧ n_xs = (unu ys_xs).length) ∧ (unu ys_xs).length ≤ 400000 ∧ (unu ys_ys).length ≤ 400000 ∧ Dig (unu ys_xs) ∧ Dig (unu ys_ys))
  | _ => none
theorem ent_iadd_ok : EntOk Try.prog 52 ent_iadd := by
  intro ds d c h hc; unfold ent_iadd at h; split at h
  · rename_i n_xs ys_xs n_ys ys_ys; obtain ⟨rfl, rfl⟩ := pair_inj h
    obtain ⟨⟨h1, h2⟩, hc⟩ := hc; subst h2; generalize (unu ys_ys) = ys at *; subst h1
    obtain ⟨⟨h1, h2⟩, hc⟩ := hc; subst h2; generalize (unu ys_xs) = xs at *; subst h1
    exact iadd_pure xs ys hc
  · cases h
def lp_isubLoop (xs ys : List Nat) : LoopO := loopRule (α := Nat × List Nat × Nat) (β := List Nat) [some 0] (fun s => MinusJ xs ys s.1 s.2.1 s.2.2) (fun s => [(0, .ro xs.length (u32s xs)), (1, .ro ys.length (u32s ys)), (5, d_out xs.length), (6, .v (.int .u32 (s.2.2 : Int))), (12, .v (.int .i64 (xs.length : Int))), (13, .v (.int .i64 (s.1 : Int)))]) (fun s => d_blk (s.2.1 ++ List.replicate (xs.length - s.1) 0)) ((0, [], 0)) (fun r => r.length = xs.length ∧ Dig r ∧ nv r = nv xs - nv ys) (fun r => (.exit 0, [(5, d_out xs.length)], d_blk r))
theorem isubLoop_rule (xs ys : List Nat) (hpre : (xs.length ≤ 400000 ∧ ys.length ≤ xs.length ∧ Dig xs ∧ Dig ys) ∧ nv ys ≤ nv xs) : LRuleP Try.prog Try.f53.ntmps (loopAt ((Try.f53.body).getD .skip) 4) (lp_isubLoop xs ys) := by
  refine lrule_of (α := Nat × List Nat × Nat) (β := List Nat) (call := (addPure 96 ent_iat (addPure 97 ent_isub32 noCalls))) (lp := fun _ => none) (N := 10) T_ok mixed (addPure_ok ent_iat_ok (addPure_ok ent_isub32_ok noCalls_ok)) (fun s => xs.length - s.1) (by kernel_rfl) (LpAllP.none _) ?_
  intro x hJ
  refine of_eq (B := letI z0 := (((Prod.fst x) : Nat) : Int); letI z6 := ((Int.toNat z0) * (1 : Nat)); letI z1 := (List.getD (u32s xs) z6 (Inhabited.default)); letI z2 := List.length xs; letI z16 := (unu (u32s ys)); letI z3 := (((List.getD z16 (Int.toNat z0) (0 : Nat)) : Nat) : Int); letI z18 := (z2 - (Prod.fst x)); letI z4 := (u32s ((Prod.fst (Prod.snd x)) ++ (List.replicate z18 (0 : Nat)))); letI z5 := (((Prod.snd (Prod.snd x)) : Nat) : Int); letI z7 := (Prod.mk (5 : Nat) (D.sl (0 : Nat) (0 : Nat) z2 (Cap.toEnd (1 : Nat)))); letI z14 := ((z2 : Nat) : Int); letI z8 := (Prod.mk (12 : Nat) (D.v (Value.int IntKind.i64 z14))); letI z9 := (Prod.mk (5 : Nat) (d_out z2)); letI z10 := (Exit.exit (0 : Nat)); letI z11 := (Prod.mk (1 : Nat) (D.ro (List.length ys) (u32s ys))); letI z12 := (((0 : Int) ≤ z0) ∧ (z0 < z14)); letI z13 := (Prod.mk (0 : Nat) (D.ro z2 (u32s xs))); letI z15 := (4294967296 : Int); letI z17 := (List (Option Nat)); (True ∧ (pcond (Decidable.decide (z0 < z14)) (True ∧ (True ∧ (True ∧ (True ∧ (True ∧ (True ∧ (z12 ∧ (((z6 < (List.length (u32s xs))) ∧ (IsInt IntKind.u32 z1)) ∧ (True ∧ (True ∧ (((((u32s ys) = (u32s z16)) ∧ ((List.length ys) = (List.length z16))) ∧ ((0 : Int) ≤ z0)) ∧ (True ∧ (((((0 : Int) ≤ (cellInt z1)) ∧ ((cellInt z1) < z15)) ∧ ((((0 : Int) ≤ z3) ∧ (z3 < z15)) ∧ (((0 : Int) ≤ z5) ∧ (z5 ≤ (1 : Int))))) ∧ (True ∧ (True ∧ (True ∧ (z12 ∧ ((((1 : Nat) = (1 : Nat)) ∧ ((((0 : Nat) + z6) + (1 : Nat)) ≤ (List.length z4))) ∧ (True ∧ ((Bool.true = Bool.true) ∧ (True ∧ (True ∧ (∃ (y : (Prod Nat (Prod (List Nat) Nat))), (∃ (kp : z17), (((z2 - (Prod.fst y)) < z18) ∧ ((MinusJ xs ys (Prod.fst y) (Prod.fst (Prod.snd y)) (Prod.snd (Prod.snd y))) ∧ (viewAll kp [z13, z11, z7, (Prod.mk (6 : Nat) (D.v (Value.int IntKind.u32 (ite ((cellInt z1) < (z3 + z5)) (1 : Int) (0 : Int))))), z8, (Prod.mk (13 : Nat) (D.v (Value.int IntKind.i64 (IntKind.wrap IntKind.i64 (z0 + (1 : Int))))))] [(Option.some (Blk.mk (41 : Nat) (List.set z4 ((0 : Nat) + z6) (D.v (Value.int IntKind.u32 ((((cellInt z1) - z3) - z5) % z15)))) Bool.true))] [z13, z11, z9, (Prod.mk (6 : Nat) (D.v (Value.int IntKind.u32 (((Prod.snd (Prod.snd y)) : Nat) : Int)))), z8, (Prod.mk (13 : Nat) (D.v (Value.int IntKind.i64 (((Prod.fst y) : Nat) : Int))))] (d_blk ((Prod.fst (Prod.snd y)) ++ (List.replicate (z2 - (Prod.fst y)) (0 : Nat))))))))))))))))))))))))))))))) (∃ (r : (List Nat)), (∃ (kp : z17), ((((List.length r) = z2) ∧ ((Dig r) ∧ ((nv r) = ((nv xs) - (nv ys))))) ∧ ((z10 = z10) ∧ (viewAll kp [z7] [(Option.some (Blk.mk (41 : Nat) z4 Bool.true))] (Prod.fst (Prod.snd ((fun (r_1 : (List Nat)) => (Prod.mk z10 (Prod.mk [z9] (d_blk r_1)))) r))) (Prod.snd (Prod.snd ((fun (r_1 : (List Nat)) => (Prod.mk z10 (Prod.mk [z9] (d_blk r_1)))) r))))))))))) (by kernel_rfl) ?_
  simp only [true_and, and_true, and_self, IsInt_lit, IsBool_lit, IsStr_lit, Bool.not_eq_true', Bool.not_eq_false', Bool.not_true, Bool.not_false, Int.reduceLE, Int.reduceLT, Int.reduceNeg, Nat.le_refl, Int.le_refl, Nat.reduceLT, Nat.reduceLeDiff, Nat.reduceEqDiff, D.v.injEq, D.tup.injEq, D.agg.injEq, D.ro.injEq, List.cons.injEq, Value.int.injEq, Value.bool.injEq, pcond_true, pcond_false, NamelessL, Nameless, Nat.reduceMul, Nat.reduceAdd, Nat.zero_add, Int.toNat_natCast]
  obtain ⟨⟨hbx, hby, hdx, hdy⟩, hge⟩ := hpre
  obtain ⟨i, o, b⟩ := x
  simp only at hJ
  have hst := fun d b' h1 h2 h3 => @minus_step xs ys hdx hdy i b o hJ h1 d b' h2 h3
  obtain ⟨h1, h2, h3, h4, h5⟩ := hJ
  have hx := hdx.get i
  have hy := hdy.get i
  simp only [true_and, and_true, and_self, IsInt_lit, IsBool_lit, IsStr_lit, Bool.not_eq_true', Bool.not_eq_false', Bool.not_true, Bool.not_false, Int.reduceLE, Int.reduceLT, Int.reduceNeg, Nat.le_refl, Int.le_refl, Nat.reduceLT, Nat.reduceLeDiff, Nat.reduceEqDiff, D.v.injEq, D.tup.injEq, D.agg.injEq, D.ro.injEq, List.cons.injEq, Value.int.injEq, Value.bool.injEq, pcond_true, pcond_false, NamelessL, Nameless, Nat.reduceMul, Nat.reduceAdd, Nat.zero_add, Int.toNat_natCast, Nat.mul_one, u32s_cell, unu_u32s, u32s_length]
  refine pcond_intro (fun h => ?_) (fun h => ?_)
  · simp only [decide_eq_true_eq] at h
    have cx : i < xs.length := by omega
    have hw : IntKind.i64.wrap ((i : Int) + 1) = ((i + 1 : Nat) : Int) := by rw [wrap_i64_of (by omega) (by omega)]; omega
    have hd : ∃ d b' : Nat, d < 4294967296 ∧ b' ≤ 1 ∧ ((xs.getD i 0 : Int) - (ys.getD i 0 : Int) - (b : Int)) % 4294967296 = (d : Int) ∧ (if (xs.getD i 0 : Int) < (ys.getD i 0 : Int) + (b : Int) then (1 : Int) else 0) = (b' : Int) ∧ d + b + ys.getD i 0 = xs.getD i 0 + b' * 4294967296 := by
      by_cases hlt : (xs.getD i 0 : Int) < (ys.getD i 0 : Int) + (b : Int)
      · refine ⟨xs.getD i 0 + 4294967296 - b - ys.getD i 0, 1, by omega, by omega, by omega, by rw [if_pos hlt]; rfl, by omega⟩
      · refine ⟨xs.getD i 0 - b - ys.getD i 0, 0, by omega, by omega, by omega, by rw [if_neg hlt]; rfl, by omega⟩
    obtain ⟨d, b', k1, k2, k3, k4, k5⟩ := hd
    simp only [k3, k4, hw, u32s_put, set_mid' o h2 d cx, u32s_isInt _ _ cx, and_true]
    refine ⟨⟨by omega, by omega⟩, by omega, by omega, ⟨⟨by omega, by omega⟩, ⟨by omega, by omega⟩, by omega, by omega⟩, ⟨by omega, by omega⟩, by rw [List.length_append, List.length_replicate]; omega, (i + 1, o ++ [d], b'), [some 0], by simp only; omega, hst d b' cx k1 k2 k5, ?_⟩
    refine of_eq (B := letI z1 := List.length xs; letI z0 := (u32s ((o ++ [d]) ++ (List.replicate (z1 - (i + (1 : Nat))) (0 : Nat)))); letI z2 := (D.v (Value.int IntKind.i64 (((i + (1 : Nat)) : Nat) : Int))); letI z3 := (D.sl (0 : Nat) (0 : Nat) z1 (Cap.toEnd (1 : Nat))); letI z4 := (D.v (Value.int IntKind.u32 ((b' : Nat) : Int))); letI z5 := (D.v (Value.int IntKind.i64 ((z1 : Nat) : Int))); letI z6 := (Option.some (Blk.mk (41 : Nat) z0 Bool.true)); letI z7 := (D.ro (List.length ys) (u32s ys)); letI z8 := ([] : List (Option Blk)); letI z9 := (D.ro z1 (u32s xs)); ((Bool.true = Bool.true) ∧ ((((z6 = z6) ∧ (NamelessL z0)) ∧ (z8 = z8)) ∧ ((True ∧ (z9 = z9)) ∧ ((True ∧ (z7 = z7)) ∧ ((True ∧ (z3 = z3)) ∧ ((True ∧ (z4 = z4)) ∧ ((True ∧ (z5 = z5)) ∧ ((True ∧ (z2 = z2)) ∧ True))))))))) (by kernel_rfl) ?_
    simp [u32s_nameless]
  · simp only [decide_eq_false_iff_not] at h
    have hi : i = xs.length := by omega
    subst hi
    rw [List.take_of_length_le hby, List.take_length] at h5
    have hlt := nv_lt h3
    rw [h2] at hlt
    have hv : nv o = nv xs - nv ys := by
      rcases (show b = 0 ∨ b = 1 by omega) with hb | hb <;> subst hb <;> omega
    refine ⟨o, [some 0], ⟨h2, h3, hv⟩, ?_⟩
    rw [Nat.sub_self, List.replicate_zero, List.append_nil]
    refine of_eq (B := letI z0 := (D.sl (0 : Nat) (0 : Nat) (List.length xs) (Cap.toEnd (1 : Nat))); letI z1 := (Option.some (Blk.mk (41 : Nat) (u32s o) Bool.true)); letI z2 := ([] : List (Option Blk)); ((Bool.true = Bool.true) ∧ ((((z1 = z1) ∧ (NamelessL (u32s o))) ∧ (z2 = z2)) ∧ ((True ∧ (z0 = z0)) ∧ True)))) (by kernel_rfl) ?_
    simp [u32s_nameless]
theorem isub_pure (xs ys : List Nat) (hpre : (xs.length ≤ 400000 ∧ ys.length ≤ xs.length ∧ Dig xs ∧ Dig ys) ∧ nv ys ≤ nv xs) : PureJ Try.prog 53 [.ro xs.length (u32s xs), .ro ys.length (u32s ys)] (.ro (dg (nv xs - nv ys)).length (u32s (dg (nv xs - nv ys)))) := by
  refine pureJ_of_vcp (call := (addPure 89 ent_itrim noCalls)) (lp := fun k => bif Nat.beq k 4 then some (lp_isubLoop xs ys) else none) (N := 10) T_ok mixed (addPure_ok ent_itrim_ok noCalls_ok) Try.func53 rfl (by decide) (by kernel_rfl) (by kernel_rfl) (of_eq (B := LRuleP Try.prog Try.f53.ntmps (loopAt ((Try.f53.body).getD .skip) 4) (lp_isubLoop xs ys) ∧ True) (by kernel_rfl) ⟨isubLoop_rule xs ys hpre, trivial⟩) (by first | trivial | (simp only [NamelessL, Nameless, and_self, and_true, true_and]; done) | (simp [NamelessL, Nameless, u32s_nameless, namelessL_ints]; done)) (by first | trivial | (simp only [NamelessL, Nameless, and_self, and_true, true_and]; done) | (simp [NamelessL, Nameless, u32s_nameless, namelessL_ints]; done)) ?_
  refine of_eq (B := letI z0 := List.length xs; letI z1 := ((z0 : Nat) : Int); letI z2 := (D.v (Value.int IntKind.u32 (0 : Int))); letI z3 := (z0 * (1 : Nat)); letI z4 := (D.v (Value.int IntKind.i64 (0 : Int))); letI z5 := ((nv xs) - (nv ys)); letI z6 := (List.replicate (Int.toNat z1) z2); letI z7 := (D.ro (List.length ys) (u32s ys)); letI z8 := (D.v (Value.int IntKind.i64 z1)); letI z9 := ([] : List (Option Blk)); letI z10 := (Cap.toEnd (1 : Nat)); letI z11 := (D.ro z0 (u32s xs)); (True ∧ (True ∧ (True ∧ ((((0 : Int) ≤ z1) ∧ ((z1 ≤ z1) ∧ ((((4 : Int) * z1) ≤ (281474976710656 : Int)) ∧ (z1 ≤ (9223372036854775807 : Int))))) ∧ (True ∧ (True ∧ (True ∧ (True ∧ (True ∧ ((MinusJ xs ys (0 : Nat) ([] : List Nat) (0 : Nat)) ∧ (((Bool.true = Bool.true) ∧ (((((Option.some (Blk.mk (41 : Nat) (u32s (([] : List Nat) ++ (List.replicate (z0 - (0 : Nat)) (0 : Nat)))) Bool.true)) = (Option.some (Blk.mk (41 : Nat) z6 Bool.true))) ∧ (NamelessL z6)) ∧ (z9 = z9)) ∧ ((True ∧ (z11 = z11)) ∧ ((True ∧ (z7 = z7)) ∧ ((True ∧ ((D.sl (0 : Nat) (0 : Nat) (Int.toNat z1) z10) = (D.sl (0 : Nat) (0 : Nat) z0 z10))) ∧ ((True ∧ (z2 = z2)) ∧ ((True ∧ (z8 = z8)) ∧ ((True ∧ (z4 = z4)) ∧ True)))))))) ∧ (∀ (r : (List Nat)), ((((List.length r) = z0) ∧ ((Dig r) ∧ ((nv r) = z5))) → (True ∧ (((((NamelessL (u32s r)) ∧ (((0 : Nat) < (1 : Nat)) ∧ (((0 : Nat) + z3) ≤ (List.length (u32s r))))) ∧ True) ∧ ((((List.take z3 (List.drop (0 : Nat) (u32s r))) = (u32s (unu (List.take z3 (List.drop (0 : Nat) (u32s r)))))) ∧ (z0 = (List.length (unu (List.take z3 (List.drop (0 : Nat) (u32s r))))))) ∧ ((List.length (unu (List.take z3 (List.drop (0 : Nat) (u32s r))))) ≤ (1000000 : Nat)))) ∧ (True ∧ (True ∧ (True ∧ ((D.ro (List.length (trimL (unu (List.take z3 (List.drop (0 : Nat) (u32s r)))))) (u32s (trimL (unu (List.take z3 (List.drop (0 : Nat) (u32s r))))))) = (D.ro (List.length (dg z5)) (u32s (dg z5))))))))))))))))))))))) (by kernel_rfl) ?_
  simp only [true_and, and_true, and_self, IsInt_lit, IsBool_lit, IsStr_lit, Bool.not_eq_true', Bool.not_eq_false', Bool.not_true, Bool.not_false, Int.reduceLE, Int.reduceLT, Int.reduceNeg, Nat.le_refl, Int.le_refl, Nat.reduceLT, Nat.reduceLeDiff, Nat.reduceEqDiff, D.v.injEq, D.tup.injEq, D.agg.injEq, D.ro.injEq, List.cons.injEq, Value.int.injEq, Value.bool.injEq, pcond_true, pcond_false, NamelessL, Nameless, Nat.reduceMul, Nat.reduceAdd, Nat.zero_add, Int.toNat_natCast, unu_u32s]
  obtain ⟨⟨hbx, hby, hdx, hdy⟩, hge⟩ := hpre
  have hr : List.replicate xs.length (D.v (Value.int IntKind.u32 0)) = u32s (List.replicate xs.length 0) := u32s_replicate _ 0
  rw [hr]
  refine ⟨by omega, ⟨by omega, rfl, Dig.nil, by omega, by simp [nv]⟩, by simp [u32s_nameless], ?_⟩
  rintro r ⟨hrl, hrd, hre⟩
  have ht : trimL r = dg (nv xs - nv ys) := by rw [← hre]; exact trimL_dig hrd
  have e : List.take (xs.length * 1) (List.drop 0 (u32s r)) = u32s r := by
    rw [List.drop_zero, Nat.mul_one, ← hrl, ← u32s_length r, List.take_length]
  simp only [e, unu_u32s, ht, hrl, u32s_length]
  simp [u32s_nameless]; omega
def ent_isub : Ent := fun ds => match ds with
  | [.ro n_xs ys_xs, .ro n_ys ys_ys] => some (.ro (dg (nv (unu ys_xs) - nv (unu ys_ys))).length (u32s (dg (nv (unu ys_xs) - nv (unu ys_ys)))), (ys_ys = u32s (unu ys_ys) ∧ n_ys = (unu ys_ys).length) ∧ (ys_xs = u32s (unu ys_xs) ∧ n_xs = (unu ys_xs).length) ∧ ((unu ys_xs).length ≤ 400000 ∧ (unu ys_ys).length ≤ (unu ys_xs).length ∧ Dig (unu ys_xs) ∧ Dig (unu ys_ys)) ∧ nv (unu ys_ys) ≤ nv (unu ys_xs))
  | _ => none
theorem ent_isub_ok : EntOk Try.prog 53 ent_isub := by
  intro ds d c h hc; unfold ent_isub at h; split at h
  · rename_i n_xs ys_xs n_ys ys_ys; obtain ⟨rfl, rfl⟩ := pair_inj h
    obtain ⟨⟨h1, h2⟩, hc⟩ := hc; subst h2; generalize (unu ys_ys) = ys at *; subst h1
    obtain ⟨⟨h1, h2⟩, hc⟩ := hc; subst h2; generalize (unu ys_xs) = xs at *; subst h1
    exact isub_pure xs ys hc
  · cases h
end Go.Proofs.Ythnhfkpihbjddaa
end
section
namespace Go.Proofs.Ythnhfkpihbjddaa
open Go.VD
set_option linter.unusedVariables false
set_option linter.unusedSimpArgs false
set_option maxRecDepth 100000
def sigF (xs : List Nat) : Bool := decide ((trimL xs).length ≤ 400)
def sigL (xs : List Nat) : List Nat := bif sigF xs then trimL xs else []
def sigN (neg : Bool) (xs : List Nat) : Bool := sigF xs && madeN neg xs
def sigE (xs : List Nat) : Int := bif sigF xs then 0 else 2
theorem sig_small (neg : Bool) {v : Nat} (h : (dg v).length ≤ 400) : sigN neg (dg v) = (neg && decide (v ≠ 0)) ∧ sigL (dg v) = dg v ∧ sigE (dg v) = 0 := by
  have e := madeN_dg neg v
  have hf : sigF (dg v) = true := by unfold sigF; rw [e.2]; simpa using h
  unfold sigN sigL sigE
  rw [hf, e.1, e.2]
  exact ⟨rfl, rfl, rfl⟩
theorem isum_same {xn yn : Bool} (h : xn = yn) {xs ys : List Nat} : (yn && decide (nv xs + nv ys ≠ 0)) = decide (iv xn xs + iv yn ys < 0) ∧ dg (nv xs + nv ys) = ofL (iv xn xs + iv yn ys) := by
  subst h
  refine ⟨?_, ?_⟩
  · unfold iv
    cases xn <;> rw [Bool.eq_iff_iff] <;> simp <;> omega
  · unfold ofL iv
    congr 1
    cases xn <;> simp <;> omega
theorem isigned_pure (neg : Bool) (xs : List Nat) (hpre : xs.length ≤ 1000000) : PureJ Try.prog 54 [.v (.bool neg), .ro xs.length (u32s xs)] (.tup [d_int (sigN neg xs) (sigL xs), .v (.int .i64 (sigE xs))]) := by
  refine pureJ_of_vcpN (call := (addPure 89 ent_itrim noCalls)) (lp := fun _ => none) (N := 10) T_ok mixed (addPure_ok ent_itrim_ok noCalls_ok) Try.func54 rfl (by decide) (by kernel_rfl) (by kernel_rfl) (LpAllP.none _) (by first | trivial | (simp only [NamelessL, Nameless, and_self, and_true, true_and]; done) | (simp [NamelessL, Nameless, u32s_nameless, namelessL_ints, d_int]; done)) (by first | trivial | (simp only [NamelessL, Nameless, and_self, and_true, true_and]; done) | (simp [NamelessL, Nameless, u32s_nameless, namelessL_ints, d_int]; done)) ?_
  refine of_eq (B := letI z0 := (D.tup [(D.agg [(D.v (Value.bool (sigN neg xs))), (D.ro (List.length (sigL xs)) (u32s (sigL xs)))]), (D.v (Value.int IntKind.i64 (sigE xs)))]); letI z1 := ((2 : Nat) ≤ (2 : Nat)); letI z4 := (unu (u32s xs)); letI z2 := (List.length (trimL z4)); letI z3 := ((True ∧ (True ∧ True)) ∧ (True ∧ True)); letI z5 := (((2 : Nat) = (2 : Nat)) ∧ z1); letI z6 := (D.v (Value.int IntKind.i64 (0 : Int))); letI z7 := (D.v (Value.bool Bool.false)); letI z8 := (D.ro z2 (u32s (trimL z4))); (True ∧ (True ∧ (True ∧ (((((u32s xs) = (u32s z4)) ∧ ((List.length xs) = (List.length z4))) ∧ ((List.length z4) ≤ (1000000 : Nat))) ∧ (True ∧ (True ∧ (True ∧ (True ∧ (pcond (Decidable.decide ((400 : Int) < ((z2 : Nat) : Int))) (True ∧ (z5 ∧ (True ∧ ((z1 ∧ True) ∧ (z3 ∧ ((D.tup [(D.agg [z7, (D.ro (0 : Nat) ([] : List D))]), (D.v (Value.int IntKind.i64 (2 : Int)))]) = z0)))))) (True ∧ (True ∧ (pcond neg (True ∧ (True ∧ (True ∧ (True ∧ (True ∧ (True ∧ (z5 ∧ (True ∧ ((z1 ∧ True) ∧ (z3 ∧ ((D.tup [(D.agg [(D.v (Value.bool (Decidable.decide ((0 : Int) < ((z2 : Nat) : Int))))), z8]), z6]) = z0))))))))))) (True ∧ (True ∧ (True ∧ (z5 ∧ (True ∧ ((z1 ∧ True) ∧ (z3 ∧ ((D.tup [(D.agg [z7, z8]), z6]) = z0))))))))))))))))))))) (by kernel_rfl) ?_
  simp only [true_and, and_true, and_self, IsInt_lit, IsBool_lit, IsStr_lit, Bool.not_eq_true', Bool.not_eq_false', Bool.not_true, Bool.not_false, Int.reduceLE, Int.reduceLT, Int.reduceNeg, Nat.le_refl, Int.le_refl, Nat.reduceLT, Nat.reduceLeDiff, Nat.reduceEqDiff, D.v.injEq, D.tup.injEq, D.agg.injEq, D.ro.injEq, List.cons.injEq, Value.int.injEq, Value.bool.injEq, pcond_true, pcond_false, NamelessL, Nameless, Nat.reduceMul, Nat.reduceAdd, Nat.zero_add, Int.toNat_natCast, unu_u32s]
  refine ⟨hpre, pcond_intro (fun h => ?_) (fun h => ?_)⟩
  · have hf : sigF xs = false := by unfold sigF; simp at h ⊢; omega
    simp [sigN, sigL, sigE, hf, u32s]
  · have hf : sigF xs = true := by unfold sigF; simp at h ⊢; omega
    have e : decide (0 < ((trimL xs).length : Int)) = decide (0 < (trimL xs).length) := by rw [decide_eq_decide]; omega
    refine pcond_intro (fun h2 => ?_) (fun h2 => ?_) <;> simp [sigN, sigL, sigE, hf, madeN, h2]
def ent_isigned : Ent := fun ds => match ds with
  | [.v (.bool neg), .ro n_xs ys_xs] => some (.tup [d_int (sigN neg (unu ys_xs)) (sigL (unu ys_xs)), .v (.int .i64 (sigE (unu ys_xs)))], (ys_xs = u32s (unu ys_xs) ∧ n_xs = (unu ys_xs).length) ∧ (unu ys_xs).length ≤ 1000000)
  | _ => none
theorem ent_isigned_ok : EntOk Try.prog 54 ent_isigned := by
  intro ds d c h hc; unfold ent_isigned at h; split at h
  · rename_i neg n_xs ys_xs; obtain ⟨rfl, rfl⟩ := pair_inj h
    obtain ⟨⟨h1, h2⟩, hc⟩ := hc; subst h2; generalize (unu ys_xs) = xs at *; subst h1
    exact isigned_pure _ xs hc
  · cases h
theorem isum_pure (xn : Bool) (xs : List Nat) (yn : Bool) (ys : List Nat) (hpre : (xs = dg (nv xs) ∧ xs.length ≤ 200) ∧ ys = dg (nv ys) ∧ ys.length ≤ 200) : PureJ Try.prog 67 [.agg [.v (.bool xn), .ro xs.length (u32s xs)], .v (.bool yn), .ro ys.length (u32s ys)] (.tup [d_int (decide (iv xn xs + iv yn ys < 0)) (ofL (iv xn xs + iv yn ys)), .v (.int .i64 0)]) := by
  refine pureJ_of_vcx (call := (addPure 52 ent_iadd (addPure 65 ent_icompare (addPure 53 ent_isub (addPure 54 ent_isigned noCalls))))) (lp := fun _ => none) (N := 10) T_ok mixed (addPure_ok ent_iadd_ok (addPure_ok ent_icompare_ok (addPure_ok ent_isub_ok (addPure_ok ent_isigned_ok noCalls_ok)))) Try.func67 rfl (by decide) (by kernel_rfl) (by kernel_rfl) (LpAll.none _) (by first | trivial | (simp only [NamelessL, Nameless, and_self, and_true, true_and]; done) | (simp [NamelessL, Nameless, u32s_nameless, namelessL_ints, d_int]; done)) (by first | trivial | (simp only [NamelessL, Nameless, and_self, and_true, true_and]; done) | (simp [NamelessL, Nameless, u32s_nameless, namelessL_ints, d_int]; done)) ?_
  refine of_eq (B := letI z0 := (unu (u32s xs)); letI z1 := (unu (u32s ys)); letI z15 := ((iv xn xs) + (iv yn ys)); letI z2 := (D.tup [(D.agg [(D.v (Value.bool (Decidable.decide (z15 < (0 : Int))))), (D.ro (List.length (ofL z15)) (u32s (ofL z15)))]), (D.v (Value.int IntKind.i64 (0 : Int)))]); letI z16 := (dg ((nv z0) + (nv z1))); letI z3 := (unu (u32s z16)); letI z17 := (dg ((nv z0) - (nv z1))); letI z4 := (unu (u32s z17)); letI z18 := (dg ((nv z1) - (nv z0))); letI z5 := (unu (u32s z18)); letI z14 := List.length z1; letI z6 := (((u32s ys) = (u32s z1)) ∧ ((List.length ys) = z14)); letI z10 := List.length z0; letI z7 := (((u32s xs) = (u32s z0)) ∧ ((List.length xs) = z10)); letI z8 := ((2 : Nat) ≤ (2 : Nat)); letI z9 := ((True ∧ (True ∧ True)) ∧ (True ∧ True)); letI z11 := ((1 : Nat) < (2 : Nat)); letI z12 := (((2 : Nat) = (2 : Nat)) ∧ z8); letI z13 := (((0 : Nat) < (2 : Nat)) ∧ (IsBool (D.v (Value.bool xn)))); letI z19 := (400000 : Nat); letI z20 := (1000000 : Nat); letI z21 := ((Dig z0) ∧ (Dig z1)); (True ∧ (True ∧ (True ∧ (True ∧ (z13 ∧ (True ∧ (True ∧ (pcond (xn == yn) (True ∧ (True ∧ (z11 ∧ (True ∧ ((z6 ∧ (z7 ∧ ((z10 ≤ z19) ∧ ((z14 ≤ z19) ∧ z21)))) ∧ (((((u32s z16) = (u32s z3)) ∧ ((List.length z16) = (List.length z3))) ∧ ((List.length z3) ≤ z20)) ∧ (True ∧ (True ∧ (z12 ∧ (True ∧ ((z8 ∧ True) ∧ (z9 ∧ ((D.tup [(D.agg [(D.v (Value.bool (sigN yn z3))), (D.ro (List.length (sigL z3)) (u32s (sigL z3)))]), (D.v (Value.int IntKind.i64 (sigE z3)))]) = z2))))))))))))) (True ∧ (z11 ∧ (True ∧ ((z6 ∧ (z7 ∧ (z10 ≤ (1000000000000 : Nat)))) ∧ (True ∧ (pcond (Decidable.decide ((0 : Int) ≤ (cmpL z0 z1))) (True ∧ (z13 ∧ (True ∧ (z11 ∧ (True ∧ ((z6 ∧ (z7 ∧ (((z10 ≤ z19) ∧ ((z14 ≤ z10) ∧ z21)) ∧ ((nv z1) ≤ (nv z0))))) ∧ (((((u32s z17) = (u32s z4)) ∧ ((List.length z17) = (List.length z4))) ∧ ((List.length z4) ≤ z20)) ∧ (True ∧ (True ∧ (z12 ∧ (True ∧ ((Bool.true = Bool.true) ∧ ((z8 ∧ True) ∧ (z9 ∧ ((D.tup [(D.agg [(D.v (Value.bool (sigN xn z4))), (D.ro (List.length (sigL z4)) (u32s (sigL z4)))]), (D.v (Value.int IntKind.i64 (sigE z4)))]) = z2))))))))))))))) (True ∧ (True ∧ (True ∧ (z11 ∧ ((z7 ∧ (z6 ∧ (((z14 ≤ z19) ∧ ((z10 ≤ z14) ∧ ((Dig z1) ∧ (Dig z0)))) ∧ ((nv z0) ≤ (nv z1))))) ∧ (((((u32s z18) = (u32s z5)) ∧ ((List.length z18) = (List.length z5))) ∧ ((List.length z5) ≤ z20)) ∧ (True ∧ (True ∧ (z12 ∧ (True ∧ ((z8 ∧ True) ∧ (z9 ∧ ((D.tup [(D.agg [(D.v (Value.bool (sigN yn z5))), (D.ro (List.length (sigL z5)) (u32s (sigL z5)))]), (D.v (Value.int IntKind.i64 (sigE z5)))]) = z2)))))))))))))))))))))))))))) (by kernel_rfl) ?_
  simp only [true_and, and_true, and_self, IsInt_lit, IsBool_lit, IsStr_lit, Bool.not_eq_true', Bool.not_eq_false', Bool.not_true, Bool.not_false, Int.reduceLE, Int.reduceLT, Int.reduceNeg, Nat.le_refl, Int.le_refl, Nat.reduceLT, Nat.reduceLeDiff, Nat.reduceEqDiff, D.v.injEq, D.tup.injEq, D.agg.injEq, D.ro.injEq, List.cons.injEq, Value.int.injEq, Value.bool.injEq, pcond_true, pcond_false, NamelessL, Nameless, Nat.reduceMul, Nat.reduceAdd, Nat.zero_add, Int.toNat_natCast, unu_u32s]
  obtain ⟨⟨gx, lx⟩, gy, ly⟩ := hpre
  have dx : Dig xs := by rw [gx]; exact dg_dig _
  have dy : Dig ys := by rw [gy]; exact dg_dig _
  have hm : plusM xs ys ≤ 200 := by unfold plusM; omega
  have hc : cmpL xs ys = cmpN (nv xs) (nv ys) := by rw [gx, gy, cmpL_dg, ← gx, ← gy]
  refine pcond_intro (fun h => ?_) (fun h => ⟨by omega, pcond_intro (fun h2 => ?_) (fun h2 => ?_)⟩)
  · have hlen := dg_length_le (plus_lt dx dy)
    obtain ⟨s1, s2, s3⟩ := sig_small yn (show (dg (nv xs + nv ys)).length ≤ 400 by omega)
    obtain ⟨e1, e2⟩ := isum_same (show xn = yn by simpa using h) (xs := xs) (ys := ys)
    rw [s1, s2, s3, e1, e2]
    rw [e2] at hlen
    exact ⟨⟨by omega, by omega, dx, dy⟩, by omega, ⟨rfl, rfl, rfl⟩, rfl⟩
  · simp only [decide_eq_true_eq, hc] at h2
    have hle : nv ys ≤ nv xs := by unfold cmpN at h2; split at h2 <;> omega
    have hlm := dg_len_mono hle
    rw [← gx, ← gy] at hlm
    have hl2 := dg_len_mono (show nv xs - nv ys ≤ nv xs by omega)
    rw [← gx] at hl2
    obtain ⟨s1, s2, s3⟩ := sig_small xn (show (dg (nv xs - nv ys)).length ≤ 400 by omega)
    obtain ⟨e1, e2⟩ := add_diff (xn := xn) (yn := yn) (by simpa using h) hle
    rw [(madeN_dg xn (nv xs - nv ys)).1] at e1
    rw [(madeN_dg xn (nv xs - nv ys)).2] at e2
    rw [s1, s2, s3, e1, e2]
    rw [e2] at hl2
    exact ⟨⟨⟨by omega, hlm, dx, dy⟩, hle⟩, by omega, ⟨rfl, rfl, rfl⟩, rfl⟩
  · simp only [decide_eq_false_iff_not, hc] at h2
    have hle : nv xs ≤ nv ys := by unfold cmpN at h2; split at h2 <;> (try split at h2) <;> omega
    have hlm := dg_len_mono hle
    rw [← gx, ← gy] at hlm
    have hl2 := dg_len_mono (show nv ys - nv xs ≤ nv ys by omega)
    rw [← gy] at hl2
    obtain ⟨s1, s2, s3⟩ := sig_small yn (show (dg (nv ys - nv xs)).length ≤ 400 by omega)
    obtain ⟨e1, e2⟩ := add_diff (xn := yn) (yn := xn) (by simp at h; exact fun k => h k.symm) hle
    rw [(madeN_dg yn (nv ys - nv xs)).1, Int.add_comm] at e1
    rw [(madeN_dg yn (nv ys - nv xs)).2, Int.add_comm] at e2
    rw [s1, s2, s3, e1, e2]
    rw [e2] at hl2
    exact ⟨⟨⟨by omega, hlm, dy, dx⟩, hle⟩, by omega, ⟨rfl, rfl, rfl⟩, rfl⟩
def ent_isum : Ent := fun ds => match ds with
  | [.agg [.v (.bool xn), .ro n_xs ys_xs], .v (.bool yn), .ro n_ys ys_ys] => some (.tup [d_int (decide (iv xn (unu ys_xs) + iv yn (unu ys_ys) < 0)) (ofL (iv xn (unu ys_xs) + iv yn (unu ys_ys))), .v (.int .i64 0)], (ys_ys = u32s (unu ys_ys) ∧ n_ys = (unu ys_ys).length) ∧ (ys_xs = u32s (unu ys_xs) ∧ n_xs = (unu ys_xs).length) ∧ ((unu ys_xs) = dg (nv (unu ys_xs)) ∧ (unu ys_xs).length ≤ 200) ∧ (unu ys_ys) = dg (nv (unu ys_ys)) ∧ (unu ys_ys).length ≤ 200)
  | _ => none
theorem ent_isum_ok : EntOk Try.prog 67 ent_isum := by
  intro ds d c h hc; unfold ent_isum at h; split at h
  · rename_i xn n_xs ys_xs yn n_ys ys_ys; obtain ⟨rfl, rfl⟩ := pair_inj h
    obtain ⟨⟨h1, h2⟩, hc⟩ := hc; subst h2; generalize (unu ys_ys) = ys at *; subst h1
    obtain ⟨⟨h1, h2⟩, hc⟩ := hc; subst h2; generalize (unu ys_xs) = xs at *; subst h1
    exact isum_pure _ xs _ ys hc
  · cases h
theorem iAdd_pure (xn : Bool) (xs : List Nat) (yn : Bool) (ys : List Nat) (hpre : (Good xn xs ∧ xs.length ≤ 200) ∧ Good yn ys ∧ ys.length ≤ 200) : PureJ Try.prog 29 [.agg [.v (.bool xn), .ro xs.length (u32s xs)], .agg [.v (.bool yn), .ro ys.length (u32s ys)]] (.tup [d_int (decide (iv xn xs + iv yn ys < 0)) (ofL (iv xn xs + iv yn ys)), .v (.int .i64 0)]) := by
  refine pureJ_of_vcx (call := (addPure 33 ent_iValid (addPure 67 ent_isum noCalls))) (lp := fun _ => none) (N := 10) T_ok mixed (addPure_ok ent_iValid_ok (addPure_ok ent_isum_ok noCalls_ok)) Try.func29 rfl (by decide) (by kernel_rfl) (by kernel_rfl) (LpAll.none _) (by first | trivial | (simp only [NamelessL, Nameless, and_self, and_true, true_and]; done) | (simp [NamelessL, Nameless, u32s_nameless, namelessL_ints, d_int]; done)) (by first | trivial | (simp only [NamelessL, Nameless, and_self, and_true, true_and]; done) | (simp [NamelessL, Nameless, u32s_nameless, namelessL_ints, d_int]; done)) ?_
  refine of_eq (B := letI z2 := ((2 : Nat) ≤ (2 : Nat)); letI z11 := (((2 : Nat) = (2 : Nat)) ∧ z2); letI z7 := ((True ∧ (True ∧ True)) ∧ (True ∧ True)); letI z9 := ((iv xn xs) + (iv yn ys)); letI z10 := (D.v (Value.int IntKind.i64 (0 : Int))); letI z1 := (D.tup [(D.agg [(D.v (Value.bool (Decidable.decide (z9 < (0 : Int))))), (D.ro (List.length (ofL z9)) (u32s (ofL z9)))]), z10]); letI z0 := (True ∧ (z11 ∧ (True ∧ ((z2 ∧ True) ∧ (z7 ∧ ((D.tup [(D.agg [(D.v (Value.bool Bool.false)), (D.v (Value.slice (Option.none) (0 : Nat) (0 : Nat)))]), (D.v (Value.int IntKind.i64 (1 : Int)))]) = z1)))))); letI z3 := (unu (u32s xs)); letI z4 := (unu (u32s ys)); letI z12 := List.length z3; letI z5 := (((u32s xs) = (u32s z3)) ∧ ((List.length xs) = z12)); letI z13 := List.length z4; letI z6 := (((u32s ys) = (u32s z4)) ∧ ((List.length ys) = z13)); letI z8 := ((iv xn z3) + (iv yn z4)); letI z14 := (1000000000000 : Nat); (True ∧ (True ∧ (True ∧ (True ∧ (z2 ∧ ((z5 ∧ (z12 ≤ z14)) ∧ (True ∧ (True ∧ (pcond (!(validL xn z3)) (True ∧ z0) (z2 ∧ ((z6 ∧ (z13 ≤ z14)) ∧ (True ∧ (True ∧ (pcond (!(validL yn z4)) z0 (z2 ∧ (True ∧ ((((0 : Nat) < (2 : Nat)) ∧ (IsBool (D.v (Value.bool yn)))) ∧ (True ∧ (((1 : Nat) < (2 : Nat)) ∧ ((z6 ∧ (z5 ∧ (((z3 = (dg (nv z3))) ∧ (z12 ≤ (200 : Nat))) ∧ ((z4 = (dg (nv z4))) ∧ (z13 ≤ (200 : Nat)))))) ∧ (True ∧ (True ∧ (z11 ∧ (True ∧ ((z2 ∧ True) ∧ (z7 ∧ ((D.tup [(D.agg [(D.v (Value.bool (Decidable.decide (z8 < (0 : Int))))), (D.ro (List.length (ofL z8)) (u32s (ofL z8)))]), z10]) = z1)))))))))))))))))))))))))))) (by kernel_rfl) ?_
  simp only [true_and, and_true, and_self, IsInt_lit, IsBool_lit, IsStr_lit, Bool.not_eq_true', Bool.not_eq_false', Bool.not_true, Bool.not_false, Int.reduceLE, Int.reduceLT, Int.reduceNeg, Nat.le_refl, Int.le_refl, Nat.reduceLT, Nat.reduceLeDiff, Nat.reduceEqDiff, D.v.injEq, D.tup.injEq, D.agg.injEq, D.ro.injEq, List.cons.injEq, Value.int.injEq, Value.bool.injEq, pcond_true, pcond_false, NamelessL, Nameless, Nat.reduceMul, Nat.reduceAdd, Nat.zero_add, Int.toNat_natCast, unu_u32s]
  obtain ⟨⟨gx, lx⟩, gy, ly⟩ := hpre
  rw [good_valid gx (by omega), good_valid gy (by omega)]
  exact ⟨by omega, by omega, ⟨gx.1, lx⟩, gy.1, ly⟩
def ent_iAdd : Ent := fun ds => match ds with
  | [.agg [.v (.bool xn), .ro n_xs ys_xs], .agg [.v (.bool yn), .ro n_ys ys_ys]] => some (.tup [d_int (decide (iv xn (unu ys_xs) + iv yn (unu ys_ys) < 0)) (ofL (iv xn (unu ys_xs) + iv yn (unu ys_ys))), .v (.int .i64 0)], (ys_ys = u32s (unu ys_ys) ∧ n_ys = (unu ys_ys).length) ∧ (ys_xs = u32s (unu ys_xs) ∧ n_xs = (unu ys_xs).length) ∧ (Good xn (unu ys_xs) ∧ (unu ys_xs).length ≤ 200) ∧ Good yn (unu ys_ys) ∧ (unu ys_ys).length ≤ 200)
  | _ => none
theorem ent_iAdd_ok : EntOk Try.prog 29 ent_iAdd := by
  intro ds d c h hc; unfold ent_iAdd at h; split at h
  · rename_i xn n_xs ys_xs yn n_ys ys_ys; obtain ⟨rfl, rfl⟩ := pair_inj h
    obtain ⟨⟨h1, h2⟩, hc⟩ := hc; subst h2; generalize (unu ys_ys) = ys at *; subst h1
    obtain ⟨⟨h1, h2⟩, hc⟩ := hc; subst h2; generalize (unu ys_xs) = xs at *; subst h1
    exact iAdd_pure _ xs _ ys hc
  · cases h
theorem lsum_pure (xn : Bool) (xs : List Nat) (yn : Bool) (ys : List Nat) (hpre : (Good xn xs ∧ xs.length ≤ 200) ∧ Good yn ys ∧ ys.length ≤ 200) : PureJ Try.prog 22 [.agg [.v (.bool xn), .ro xs.length (u32s xs)], .agg [.v (.bool yn), .ro ys.length (u32s ys)]] (d_int (decide (iv xn xs + iv yn ys < 0)) (ofL (iv xn xs + iv yn ys))) := by
  refine pureJ_of_vcx (call := (addPure 29 ent_iAdd noCalls)) (lp := fun _ => none) (N := 10) T_ok mixed (addPure_ok ent_iAdd_ok noCalls_ok) Try.func22 rfl (by decide) (by kernel_rfl) (by kernel_rfl) (LpAll.none _) (by first | trivial | (simp only [NamelessL, Nameless, and_self, and_true, true_and]; done) | (simp [NamelessL, Nameless, u32s_nameless, namelessL_ints, d_int]; done)) (by first | trivial | (simp only [NamelessL, Nameless, and_self, and_true, true_and]; done) | (simp [NamelessL, Nameless, u32s_nameless, namelessL_ints, d_int]; done)) ?_
  refine of_eq (B := letI z0 := ((2 : Nat) ≤ (2 : Nat)); letI z3 := (unu (u32s xs)); letI z2 := (unu (u32s ys)); letI z1 := ((iv xn z3) + (iv yn z2)); letI z4 := ((iv xn xs) + (iv yn ys)); letI z5 := (((2 : Nat) = (2 : Nat)) ∧ z0); (True ∧ (True ∧ (True ∧ (z0 ∧ (z0 ∧ (((((u32s ys) = (u32s z2)) ∧ ((List.length ys) = (List.length z2))) ∧ ((((u32s xs) = (u32s z3)) ∧ ((List.length xs) = (List.length z3))) ∧ (((Good xn z3) ∧ ((List.length z3) ≤ (200 : Nat))) ∧ ((Good yn z2) ∧ ((List.length z2) ≤ (200 : Nat)))))) ∧ (True ∧ (True ∧ (True ∧ (True ∧ (z5 ∧ (True ∧ (z0 ∧ (z5 ∧ ((z0 ∧ True) ∧ ((True ∧ (True ∧ True)) ∧ ((D.agg [(D.v (Value.bool (Decidable.decide (z1 < (0 : Int))))), (D.ro (List.length (ofL z1)) (u32s (ofL z1)))]) = (D.agg [(D.v (Value.bool (Decidable.decide (z4 < (0 : Int))))), (D.ro (List.length (ofL z4)) (u32s (ofL z4)))]))))))))))))))))))) (by kernel_rfl) ?_
  simp only [true_and, and_true, and_self, IsInt_lit, IsBool_lit, IsStr_lit, Bool.not_eq_true', Bool.not_eq_false', Bool.not_true, Bool.not_false, Int.reduceLE, Int.reduceLT, Int.reduceNeg, Nat.le_refl, Int.le_refl, Nat.reduceLT, Nat.reduceLeDiff, Nat.reduceEqDiff, D.v.injEq, D.tup.injEq, D.agg.injEq, D.ro.injEq, List.cons.injEq, Value.int.injEq, Value.bool.injEq, pcond_true, pcond_false, NamelessL, Nameless, Nat.reduceMul, Nat.reduceAdd, Nat.zero_add, Int.toNat_natCast, unu_u32s]
  exact hpre
def ent_lsum : Ent := fun ds => match ds with
  | [.agg [.v (.bool xn), .ro n_xs ys_xs], .agg [.v (.bool yn), .ro n_ys ys_ys]] => some (d_int (decide (iv xn (unu ys_xs) + iv yn (unu ys_ys) < 0)) (ofL (iv xn (unu ys_xs) + iv yn (unu ys_ys))), (ys_ys = u32s (unu ys_ys) ∧ n_ys = (unu ys_ys).length) ∧ (ys_xs = u32s (unu ys_xs) ∧ n_xs = (unu ys_xs).length) ∧ (Good xn (unu ys_xs) ∧ (unu ys_xs).length ≤ 200) ∧ Good yn (unu ys_ys) ∧ (unu ys_ys).length ≤ 200)
  | _ => none
theorem ent_lsum_ok : EntOk Try.prog 22 ent_lsum := by
  intro ds d c h hc; unfold ent_lsum at h; split at h
  · rename_i xn n_xs ys_xs yn n_ys ys_ys; obtain ⟨rfl, rfl⟩ := pair_inj h
    obtain ⟨⟨h1, h2⟩, hc⟩ := hc; subst h2; generalize (unu ys_ys) = ys at *; subst h1
    obtain ⟨⟨h1, h2⟩, hc⟩ := hc; subst h2; generalize (unu ys_xs) = xs at *; subst h1
    exact lsum_pure _ xs _ ys hc
  · cases h
theorem small_false (w : Int) (h0 : 0 ≤ w) : pcond (decide (w < 9223372036854775808)) ((IntKind.i64.wrap w = if fitsI w = true then w else 0) ∧ true = fitsI w) ((0 = if fitsI w = true then w else 0) ∧ false = fitsI w) := by
  have e : fitsI w = decide (w < 9223372036854775808) := by
    unfold fitsI
    rw [Bool.eq_iff_iff]; simp only [Bool.and_eq_true, decide_eq_true_eq]; omega
  rw [e]
  refine pcond_intro (fun h => ?_) (fun h => ?_)
  · rw [h, wrap_i64_of (by omega) (of_decide_eq_true h)]; exact ⟨rfl, rfl⟩
  · rw [h]; exact ⟨rfl, rfl⟩
theorem small_true (w : Int) (h0 : 0 ≤ w) (h1 : w < 18446744073709551616) (v : Int) (hv : v = -w) (Z : Prop) : pcond (decide (w ≤ 9223372036854775808)) ((IntKind.i64.wrap (IntKind.u64.wrap (0 - w)) = if fitsI v = true then v else 0) ∧ true = fitsI v) ((0 = if fitsI v = true then v else 0) ∧ false = fitsI v) := by
  subst hv
  have e : fitsI (-w) = decide (w ≤ 9223372036854775808) := by
    unfold fitsI
    rw [Bool.eq_iff_iff]; simp only [Bool.and_eq_true, decide_eq_true_eq]; omega
  rw [e]
  refine pcond_intro (fun h => ?_) (fun h => ?_)
  · have h2 := of_decide_eq_true h
    have e : IntKind.i64.wrap (IntKind.u64.wrap (0 - w)) = -w := by rw [wrap_u64, IntKind.wrap_i64]; omega
    rw [h, e]; exact ⟨rfl, rfl⟩
  · rw [h]; exact ⟨rfl, rfl⟩
theorem iCompare_pure (xn : Bool) (xs : List Nat) (yn : Bool) (ys : List Nat) (hpre : xs.length ≤ 1000000000000 ∧ ys.length ≤ 1000000000000) : PureJ Try.prog 25 [.agg [.v (.bool xn), .ro xs.length (u32s xs)], .agg [.v (.bool yn), .ro ys.length (u32s ys)]] (.v (.int .i64 (cmpI xn xs yn ys))) := by
  refine pureJ_of_vcx (call := (addPure 33 ent_iValid (addPure 65 ent_icompare noCalls))) (lp := fun _ => none) (N := 10) T_ok mixed (addPure_ok ent_iValid_ok (addPure_ok ent_icompare_ok noCalls_ok)) Try.func25 rfl (by decide) (by kernel_rfl) (by kernel_rfl) (LpAll.none _) (by first | trivial | (simp only [NamelessL, Nameless, and_self, and_true, true_and]; done) | (simp [NamelessL, Nameless, u32s_nameless, namelessL_ints]; done)) (by first | trivial | (simp only [NamelessL, Nameless, and_self, and_true, true_and]; done) | (simp [NamelessL, Nameless, u32s_nameless, namelessL_ints]; done)) ?_
  refine of_eq (B := letI z7 := ((0 : Nat) < (2 : Nat)); letI z10 := (z7 ∧ (IsBool (D.v (Value.bool xn)))); letI z1 := (D.v (Value.int IntKind.i64 (cmpI xn xs yn ys))); letI z11 := (z7 ∧ (IsBool (D.v (Value.bool yn)))); letI z8 := ((1 : Nat) < (2 : Nat)); letI z6 := (unu (u32s ys)); letI z3 := (((u32s ys) = (u32s z6)) ∧ ((List.length ys) = (List.length z6))); letI z5 := (unu (u32s xs)); letI z2 := (((u32s xs) = (u32s z5)) ∧ ((List.length xs) = (List.length z5))); letI z9 := (1000000000000 : Nat); letI z12 := (z2 ∧ ((List.length z5) ≤ z9)); letI z0 := (True ∧ (z10 ∧ (True ∧ (pcond xn (True ∧ (True ∧ (True ∧ ((D.v (Value.int IntKind.i64 (-(1 : Int)))) = z1)))) (True ∧ (z11 ∧ (True ∧ (pcond yn (True ∧ (True ∧ (True ∧ ((D.v (Value.int IntKind.i64 (1 : Int))) = z1)))) (True ∧ (z8 ∧ (True ∧ (z8 ∧ ((z3 ∧ z12) ∧ (True ∧ (True ∧ (True ∧ ((D.v (Value.int IntKind.i64 (cmpL z5 z6))) = z1))))))))))))))))); letI z4 := (True ∧ (True ∧ (True ∧ ((D.v (Value.int IntKind.i64 (0 : Int))) = z1)))); letI z13 := (z3 ∧ ((List.length z6) ≤ z9)); letI z14 := ((2 : Nat) ≤ (2 : Nat)); (True ∧ (True ∧ (True ∧ (z14 ∧ (z12 ∧ (True ∧ (True ∧ (pcond (!(validL xn z5)) (True ∧ z4) (z14 ∧ (z13 ∧ (True ∧ (True ∧ (pcond (!(validL yn z6)) z4 (True ∧ (z10 ∧ (True ∧ (pcond xn (True ∧ (z11 ∧ (True ∧ (True ∧ (pcond yn (True ∧ (z8 ∧ (True ∧ (z8 ∧ ((z2 ∧ z13) ∧ (True ∧ (True ∧ (True ∧ ((D.v (Value.int IntKind.i64 (cmpL z6 z5))) = z1))))))))) z0))))) (True ∧ (True ∧ z0)))))))))))))))))))) (by kernel_rfl) ?_
  simp only [true_and, and_true, and_self, IsInt_lit, IsBool_lit, IsStr_lit, Bool.not_eq_true', Bool.not_eq_false', Bool.not_true, Bool.not_false, Int.reduceLE, Int.reduceLT, Int.reduceNeg, Nat.le_refl, Int.le_refl, Nat.reduceLT, Nat.reduceLeDiff, Nat.reduceEqDiff, D.v.injEq, D.tup.injEq, D.agg.injEq, D.ro.injEq, List.cons.injEq, Value.int.injEq, Value.bool.injEq, pcond_true, pcond_false, NamelessL, Nameless, Nat.reduceMul, Nat.reduceAdd, Nat.zero_add, Int.toNat_natCast, unu_u32s]
  obtain ⟨hp, hq⟩ := hpre
  cases xn <;> cases yn <;> refine ⟨hp, pcond_intro (fun h => ?_) (fun h => ⟨hq, pcond_intro (fun h1 => ?_) (fun h1 => ?_)⟩)⟩ <;> simp_all [cmpI, pcond]
def ent_iCompare : Ent := fun ds => match ds with
  | [.agg [.v (.bool xn), .ro n_xs ys_xs], .agg [.v (.bool yn), .ro n_ys ys_ys]] => some (.v (.int .i64 (cmpI xn (unu ys_xs) yn (unu ys_ys))), (ys_ys = u32s (unu ys_ys) ∧ n_ys = (unu ys_ys).length) ∧ (ys_xs = u32s (unu ys_xs) ∧ n_xs = (unu ys_xs).length) ∧ (unu ys_xs).length ≤ 1000000000000 ∧ (unu ys_ys).length ≤ 1000000000000)
  | _ => none
theorem ent_iCompare_ok : EntOk Try.prog 25 ent_iCompare := by
  intro ds d c h hc; unfold ent_iCompare at h; split at h
  · rename_i xn n_xs ys_xs yn n_ys ys_ys; obtain ⟨rfl, rfl⟩ := pair_inj h
    obtain ⟨⟨h1, h2⟩, hc⟩ := hc; subst h2; generalize (unu ys_ys) = ys at *; subst h1
    obtain ⟨⟨h1, h2⟩, hc⟩ := hc; subst h2; generalize (unu ys_xs) = xs at *; subst h1
    exact iCompare_pure _ xs _ ys hc
  · cases h
theorem known_pure : PureJ Try.prog 11 [] (.v (.bool true)) :=
  pure_of_ev T_ok mixed (base := fun _ _ _ => none) (fun _ _ _ _ _ _ h => by cases h) (N := 1000) (n := 50) Try.func11 rfl (by kernel_rfl)
def ent_known : Ent := fun ds => match ds with
  | [] => some (.v (.bool true), True)
  | _ => none
theorem ent_known_ok : EntOk Try.prog 11 ent_known := by
  intro ds d c h hc; unfold ent_known at h; split at h
  · obtain ⟨rfl, rfl⟩ := pair_inj h; exact known_pure
  · cases h
end Go.Proofs.Ythnhfkpihbjddaa
end
