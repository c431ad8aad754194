/- The specification's integers: made, Of, validity, comparison. -/
import Derived.Test.YthnhfkpihbjddaaRm
import Derived.Test.YthnhfkpihbjddaaEd
namespace Go.Proofs.Ythnhfkpihbjddaa
open Go.VD
set_option linter.unusedVariables false
set_option linter.unusedSimpArgs false
set_option maxRecDepth 100000

theorem unu_two (a b : Nat) : unu [.v (.int .u32 (a : Int)), .v (.int .u32 (b : Int))] = [a, b] := unu_u32s [a, b]
def d_int (neg : Bool) (xs : List Nat) : D := .agg [.v (.bool neg), .ro xs.length (u32s xs)]
def madeN (neg : Bool) (xs : List Nat) : Bool := neg && decide (0 < (trimL xs).length)
theorem made_pure (neg : Bool) (xs : List Nat) (hpre : xs.length ≤ 1000000) : PureJ Try.prog 60 [.v (.bool neg), .ro xs.length (u32s xs)] (d_int (madeN neg xs) (trimL xs)) := by
  refine pureJ_of_vcx (call := (addPure 56 ent_trim noCalls)) (lp := fun _ => none) (N := 10) T_ok mixed (addPure_ok ent_trim_ok noCalls_ok) Try.func60 rfl (by decide) (by kernel_rfl) (by kernel_rfl) (LpAll.none _) (by first | trivial | (simp only [NamelessL, Nameless, and_self, and_true, true_and]; done) | (simp [NamelessL, Nameless, u32s_nameless, namelessL_ints, d_int]; done)) (by first | trivial | (simp only [NamelessL, Nameless, and_self, and_true, true_and]; done) | (simp [NamelessL, Nameless, u32s_nameless, namelessL_ints, d_int]; done)) ?_
  refine of_eq (B := (True ∧ (True ∧ (((((u32s xs) = (u32s (unu (u32s xs)))) ∧ ((List.length xs) = (List.length (unu (u32s xs))))) ∧ ((List.length (unu (u32s xs))) ≤ (1000000 : Nat))) ∧ (True ∧ (True ∧ (True ∧ (pcond neg (True ∧ (True ∧ (True ∧ (True ∧ (True ∧ (True ∧ ((((2 : Nat) = (2 : Nat)) ∧ ((2 : Nat) ≤ (2 : Nat))) ∧ ((((2 : Nat) ≤ (2 : Nat)) ∧ True) ∧ ((True ∧ (True ∧ True)) ∧ ((D.agg [(D.v (Value.bool (Decidable.decide ((0 : Int) < (((List.length (trimL (unu (u32s xs)))) : Nat) : Int))))), (D.ro (List.length (trimL (unu (u32s xs)))) (u32s (trimL (unu (u32s xs)))))]) = (D.agg [(D.v (Value.bool (madeN neg xs))), (D.ro (List.length (trimL xs)) (u32s (trimL xs)))]))))))))))) (True ∧ (True ∧ (True ∧ ((((2 : Nat) = (2 : Nat)) ∧ ((2 : Nat) ≤ (2 : Nat))) ∧ ((((2 : Nat) ≤ (2 : Nat)) ∧ True) ∧ ((True ∧ (True ∧ True)) ∧ ((D.agg [(D.v (Value.bool Bool.false)), (D.ro (List.length (trimL (unu (u32s xs)))) (u32s (trimL (unu (u32s xs)))))]) = (D.agg [(D.v (Value.bool (madeN neg xs))), (D.ro (List.length (trimL xs)) (u32s (trimL xs)))])))))))))))))))) (by kernel_rfl) ?_
  simp only [true_and, and_true, and_self, IsInt_lit, IsBool_lit, IsStr_lit, Bool.not_eq_true', Bool.not_eq_false', Bool.not_true, Bool.not_false, Int.reduceLE, Int.reduceLT, Int.reduceNeg, Nat.le_refl, Int.le_refl, Nat.reduceLT, Nat.reduceLeDiff, Nat.reduceEqDiff, D.v.injEq, D.tup.injEq, D.agg.injEq, D.ro.injEq, List.cons.injEq, Value.int.injEq, Value.bool.injEq, pcond_true, pcond_false, NamelessL, Nameless, Nat.reduceMul, Nat.reduceAdd, Nat.zero_add, Int.toNat_natCast, unu_u32s]
  have e : decide (0 < ((trimL xs).length : Int)) = decide (0 < (trimL xs).length) := by rw [decide_eq_decide]; omega
  refine ⟨hpre, pcond_intro (fun h => ?_) (fun h => ?_)⟩ <;> simp [madeN, h]
def ent_made : Ent := fun ds => match ds with
  | [.v (.bool neg), .ro n_xs ys_xs] => some (d_int (madeN neg (unu ys_xs)) (trimL (unu ys_xs)), (ys_xs = u32s (unu ys_xs) ∧ n_xs = (unu ys_xs).length) ∧ (unu ys_xs).length ≤ 1000000)
  | _ => none
theorem ent_made_ok : EntOk Try.prog 60 ent_made := by
  intro ds d c h hc; unfold ent_made at h; split at h
  · rename_i neg n_xs ys_xs; obtain ⟨rfl, rfl⟩ := pair_inj h
    obtain ⟨⟨h1, h2⟩, hc⟩ := hc; subst h2; generalize (unu ys_xs) = xs at *; subst h1
    exact made_pure _ xs hc
  · cases h
theorem digits_pure (u : Int) (hpre : 0 ≤ u ∧ u < 18446744073709551616) : PureJ Try.prog 86 [.v (.int .u64 u)] (.ro (dg u.toNat).length (u32s (dg u.toNat))) := by
  refine pureJ_of_vcx (call := (addPure 56 ent_trim noCalls)) (lp := fun _ => none) (N := 10) T_ok mixed (addPure_ok ent_trim_ok noCalls_ok) Try.func86 rfl (by decide) (by kernel_rfl) (by kernel_rfl) (LpAll.none _) (by first | trivial | (simp only [NamelessL, Nameless, and_self, and_true, true_and]; done) | (simp [NamelessL, Nameless, u32s_nameless, namelessL_ints]; done)) (by first | trivial | (simp only [NamelessL, Nameless, and_self, and_true, true_and]; done) | (simp [NamelessL, Nameless, u32s_nameless, namelessL_ints]; done)) ?_
  refine of_eq (B := (True ∧ (True ∧ (True ∧ (True ∧ (((0 : Int) ≤ (32 : Int)) ∧ (True ∧ ((((2 : Nat) ≤ (16777216 : Nat)) ∧ ((2 : Nat) ≤ (9223372036854775807 : Nat))) ∧ (((((NamelessL [(D.v (Value.int IntKind.u32 (IntKind.wrap IntKind.u32 u))), (D.v (Value.int IntKind.u32 (IntKind.wrap IntKind.u32 (Int.fdiv u (4294967296 : Int)))))]) ∧ (((0 : Nat) < (1 : Nat)) ∧ ((2 : Nat) ≤ (2 : Nat)))) ∧ True) ∧ ((([(D.v (Value.int IntKind.u32 (IntKind.wrap IntKind.u32 u))), (D.v (Value.int IntKind.u32 (IntKind.wrap IntKind.u32 (Int.fdiv u (4294967296 : Int)))))] = (u32s (unu [(D.v (Value.int IntKind.u32 (IntKind.wrap IntKind.u32 u))), (D.v (Value.int IntKind.u32 (IntKind.wrap IntKind.u32 (Int.fdiv u (4294967296 : Int)))))]))) ∧ ((2 : Nat) = (List.length (unu [(D.v (Value.int IntKind.u32 (IntKind.wrap IntKind.u32 u))), (D.v (Value.int IntKind.u32 (IntKind.wrap IntKind.u32 (Int.fdiv u (4294967296 : Int)))))])))) ∧ ((List.length (unu [(D.v (Value.int IntKind.u32 (IntKind.wrap IntKind.u32 u))), (D.v (Value.int IntKind.u32 (IntKind.wrap IntKind.u32 (Int.fdiv u (4294967296 : Int)))))])) ≤ (1000000 : Nat)))) ∧ (True ∧ (True ∧ (True ∧ ((D.ro (List.length (trimL (unu [(D.v (Value.int IntKind.u32 (IntKind.wrap IntKind.u32 u))), (D.v (Value.int IntKind.u32 (IntKind.wrap IntKind.u32 (Int.fdiv u (4294967296 : Int)))))]))) (u32s (trimL (unu [(D.v (Value.int IntKind.u32 (IntKind.wrap IntKind.u32 u))), (D.v (Value.int IntKind.u32 (IntKind.wrap IntKind.u32 (Int.fdiv u (4294967296 : Int)))))])))) = (D.ro (List.length (dg (Int.toNat u))) (u32s (dg (Int.toNat u))))))))))))))))) (by kernel_rfl) ?_
  obtain ⟨h0, h1⟩ := hpre
  obtain ⟨u, rfl⟩ := Int.eq_ofNat_of_zero_le h0
  have e1 : IntKind.u32.wrap (u : Int) = ((u % 4294967296 : Nat) : Int) := by rw [wrap_u32]; omega
  have e2 : IntKind.u32.wrap ((u : Int).fdiv 4294967296) = ((u / 4294967296 % 4294967296 : Nat) : Int) := by rw [wrap_u32, Int.fdiv_eq_ediv_of_nonneg _ (by omega)]; omega
  have ht : trimL [u % 4294967296, u / 4294967296 % 4294967296] = dg u := trimL_dgn (k := 2) (v := u) (by omega)
  simp only [true_and, and_true, and_self, IsInt_lit, IsBool_lit, IsStr_lit, Bool.not_eq_true', Bool.not_eq_false', Bool.not_true, Bool.not_false, Int.reduceLE, Int.reduceLT, Int.reduceNeg, Nat.le_refl, Int.le_refl, Nat.reduceLT, Nat.reduceLeDiff, Nat.reduceEqDiff, D.v.injEq, D.tup.injEq, D.agg.injEq, D.ro.injEq, List.cons.injEq, Value.int.injEq, Value.bool.injEq, pcond_true, pcond_false, NamelessL, Nameless, Nat.reduceMul, Nat.reduceAdd, Nat.zero_add, Int.toNat_natCast, e1, e2, unu_two, ht]
  refine ⟨⟨rfl, rfl⟩, ?_⟩
  simp
def ent_digits : Ent := fun ds => match ds with
  | [.v (.int .u64 u)] => some (.ro (dg u.toNat).length (u32s (dg u.toNat)), 0 ≤ u ∧ u < 18446744073709551616)
  | _ => none
theorem ent_digits_ok : EntOk Try.prog 86 ent_digits := by
  intro ds d c h hc; unfold ent_digits at h; split at h
  · obtain ⟨rfl, rfl⟩ := pair_inj h; exact digits_pure _ hc
  · cases h
theorem not64 (x : Nat) (h : x < 18446744073709551616) : 18446744073709551615 ^^^ x = 18446744073709551615 - x := by
  have e1 := BitVec.toNat_not (x := BitVec.ofNat 64 x)
  have e2 : ~~~(BitVec.ofNat 64 x) = BitVec.allOnes 64 ^^^ BitVec.ofNat 64 x := by rw [BitVec.xor_comm, BitVec.xor_allOnes]
  rw [e2, BitVec.toNat_xor, BitVec.toNat_allOnes, BitVec.toNat_ofNat, Nat.mod_eq_of_lt (by omega)] at e1
  simpa using e1
theorem bits_not64 (x : Int) (h0 : 0 ≤ x) (h : x < 18446744073709551616) : Go.bits .xor .u64 18446744073709551615 x = 18446744073709551615 - x := by
  obtain ⟨x, rfl⟩ := Int.eq_ofNat_of_zero_le h0
  have := bits_xor_u64_nat 18446744073709551615 x (by omega) (by omega)
  rw [not64 x (by omega)] at this
  rw [show (18446744073709551615 : Int) = ((18446744073709551615 : Nat) : Int) by rfl, this]
  omega
/-- the digits of an int -/
def ofL (n : Int) : List Nat := dg n.natAbs
theorem madeN_dg (neg : Bool) (v : Nat) : madeN neg (dg v) = (neg && decide (v ≠ 0)) ∧ trimL (dg v) = dg v := by
  have h := trimL_dig (dg_dig v)
  rw [nv_dg] at h
  refine ⟨?_, h⟩
  unfold madeN
  rw [h]
  congr 1
  rw [decide_eq_decide]
  by_cases h0 : v = 0
  · subst h0; simp [dg_zero]
  · simp [h0, dg_pos h0]
theorem dg_len64 {v : Nat} (h : v < 18446744073709551616) : (dg v).length ≤ 2 := dg_length_le (k := 2) (by omega)
theorem Of_pure (n : Int) (hpre : -9223372036854775808 ≤ n ∧ n < 9223372036854775808) : PureJ Try.prog 49 [.v (.int .i64 n)] (d_int (decide (n < 0)) (ofL n)) := by
  refine pureJ_of_vcx (call := (addPure 86 ent_digits (addPure 60 ent_made noCalls))) (lp := fun _ => none) (N := 10) T_ok mixed (addPure_ok ent_digits_ok (addPure_ok ent_made_ok noCalls_ok)) Try.func49 rfl (by decide) (by kernel_rfl) (by kernel_rfl) (LpAll.none _) (by first | trivial | (simp only [NamelessL, Nameless, and_self, and_true, true_and]; done) | (simp [NamelessL, Nameless, u32s_nameless, namelessL_ints, d_int]; done)) (by first | trivial | (simp only [NamelessL, Nameless, and_self, and_true, true_and]; done) | (simp [NamelessL, Nameless, u32s_nameless, namelessL_ints, d_int]; done)) ?_
  refine of_eq (B := (True ∧ (True ∧ (True ∧ (pcond (Decidable.decide (n < (0 : Int))) (True ∧ (True ∧ (True ∧ (True ∧ ((((0 : Int) ≤ (IntKind.wrap IntKind.u64 ((bits BinOp.xor IntKind.u64 (18446744073709551615 : Int) (IntKind.wrap IntKind.u64 n)) + (1 : Int)))) ∧ ((IntKind.wrap IntKind.u64 ((bits BinOp.xor IntKind.u64 (18446744073709551615 : Int) (IntKind.wrap IntKind.u64 n)) + (1 : Int))) < (18446744073709551616 : Int))) ∧ (((((u32s (dg (Int.toNat (IntKind.wrap IntKind.u64 ((bits BinOp.xor IntKind.u64 (18446744073709551615 : Int) (IntKind.wrap IntKind.u64 n)) + (1 : Int)))))) = (u32s (unu (u32s (dg (Int.toNat (IntKind.wrap IntKind.u64 ((bits BinOp.xor IntKind.u64 (18446744073709551615 : Int) (IntKind.wrap IntKind.u64 n)) + (1 : Int))))))))) ∧ ((List.length (dg (Int.toNat (IntKind.wrap IntKind.u64 ((bits BinOp.xor IntKind.u64 (18446744073709551615 : Int) (IntKind.wrap IntKind.u64 n)) + (1 : Int)))))) = (List.length (unu (u32s (dg (Int.toNat (IntKind.wrap IntKind.u64 ((bits BinOp.xor IntKind.u64 (18446744073709551615 : Int) (IntKind.wrap IntKind.u64 n)) + (1 : Int)))))))))) ∧ ((List.length (unu (u32s (dg (Int.toNat (IntKind.wrap IntKind.u64 ((bits BinOp.xor IntKind.u64 (18446744073709551615 : Int) (IntKind.wrap IntKind.u64 n)) + (1 : Int)))))))) ≤ (1000000 : Nat))) ∧ ((((2 : Nat) = (2 : Nat)) ∧ ((2 : Nat) ≤ (2 : Nat))) ∧ ((((2 : Nat) ≤ (2 : Nat)) ∧ True) ∧ ((True ∧ (True ∧ True)) ∧ ((D.agg [(D.v (Value.bool (madeN Bool.true (unu (u32s (dg (Int.toNat (IntKind.wrap IntKind.u64 ((bits BinOp.xor IntKind.u64 (18446744073709551615 : Int) (IntKind.wrap IntKind.u64 n)) + (1 : Int)))))))))), (D.ro (List.length (trimL (unu (u32s (dg (Int.toNat (IntKind.wrap IntKind.u64 ((bits BinOp.xor IntKind.u64 (18446744073709551615 : Int) (IntKind.wrap IntKind.u64 n)) + (1 : Int))))))))) (u32s (trimL (unu (u32s (dg (Int.toNat (IntKind.wrap IntKind.u64 ((bits BinOp.xor IntKind.u64 (18446744073709551615 : Int) (IntKind.wrap IntKind.u64 n)) + (1 : Int))))))))))]) = (D.agg [(D.v (Value.bool (Decidable.decide (n < (0 : Int))))), (D.ro (List.length (ofL n)) (u32s (ofL n)))]))))))))))) (True ∧ (True ∧ ((((0 : Int) ≤ (IntKind.wrap IntKind.u64 n)) ∧ ((IntKind.wrap IntKind.u64 n) < (18446744073709551616 : Int))) ∧ (((((u32s (dg (Int.toNat (IntKind.wrap IntKind.u64 n)))) = (u32s (unu (u32s (dg (Int.toNat (IntKind.wrap IntKind.u64 n))))))) ∧ ((List.length (dg (Int.toNat (IntKind.wrap IntKind.u64 n)))) = (List.length (unu (u32s (dg (Int.toNat (IntKind.wrap IntKind.u64 n)))))))) ∧ ((List.length (unu (u32s (dg (Int.toNat (IntKind.wrap IntKind.u64 n)))))) ≤ (1000000 : Nat))) ∧ ((((2 : Nat) = (2 : Nat)) ∧ ((2 : Nat) ≤ (2 : Nat))) ∧ ((((2 : Nat) ≤ (2 : Nat)) ∧ True) ∧ ((True ∧ (True ∧ True)) ∧ ((D.agg [(D.v (Value.bool (madeN Bool.false (unu (u32s (dg (Int.toNat (IntKind.wrap IntKind.u64 n)))))))), (D.ro (List.length (trimL (unu (u32s (dg (Int.toNat (IntKind.wrap IntKind.u64 n))))))) (u32s (trimL (unu (u32s (dg (Int.toNat (IntKind.wrap IntKind.u64 n))))))))]) = (D.agg [(D.v (Value.bool (Decidable.decide (n < (0 : Int))))), (D.ro (List.length (ofL n)) (u32s (ofL n)))])))))))))))))) (by kernel_rfl) ?_
  simp only [true_and, and_true, and_self, IsInt_lit, IsBool_lit, IsStr_lit, Bool.not_eq_true', Bool.not_eq_false', Bool.not_true, Bool.not_false, Int.reduceLE, Int.reduceLT, Int.reduceNeg, Nat.le_refl, Int.le_refl, Nat.reduceLT, Nat.reduceLeDiff, Nat.reduceEqDiff, D.v.injEq, D.tup.injEq, D.agg.injEq, D.ro.injEq, List.cons.injEq, Value.int.injEq, Value.bool.injEq, pcond_true, pcond_false, NamelessL, Nameless, Nat.reduceMul, Nat.reduceAdd, Nat.zero_add, Int.toNat_natCast, unu_u32s, wrap_u64]
  refine pcond_intro (fun h => ?_) (fun h => ?_)
  · simp only [decide_eq_true_eq] at h
    rw [bits_not64 _ (by omega) (by omega)]
    have e : ((18446744073709551615 - n % 18446744073709551616 + 1) % 18446744073709551616).toNat = n.natAbs := by omega
    have hm := madeN_dg true n.natAbs
    have hl := dg_len64 (v := n.natAbs) (by omega)
    rw [e, hm.1, hm.2]
    refine ⟨⟨by omega, by omega⟩, by omega, ?_, rfl, rfl⟩
    simp [h]; omega
  · simp only [decide_eq_false_iff_not] at h
    have e : (n % 18446744073709551616).toNat = n.natAbs := by omega
    have hm := madeN_dg false n.natAbs
    have hl := dg_len64 (v := n.natAbs) (by omega)
    rw [e, hm.1, hm.2]
    refine ⟨⟨by omega, by omega⟩, by omega, ?_, rfl, rfl⟩
    simp [h]
def ent_Of : Ent := fun ds => match ds with
  | [.v (.int .i64 n)] => some (d_int (decide (n < 0)) (ofL n), -9223372036854775808 ≤ n ∧ n < 9223372036854775808)
  | _ => none
theorem ent_Of_ok : EntOk Try.prog 49 ent_Of := by
  intro ds d c h hc; unfold ent_Of at h; split at h
  · obtain ⟨rfl, rfl⟩ := pair_inj h; exact Of_pure _ hc
  · cases h
def validL (neg : Bool) (xs : List Nat) : Bool := if xs.length = 0 then !neg else decide (xs.length ≤ 400) && decide (xs.getD (xs.length - 1) 0 ≠ 0)
theorem cast_eq0 (n : Nat) : ((n : Int) == 0) = decide (n = 0) := by
  rw [Bool.eq_iff_iff]; simp
theorem cast_ne0 (n : Nat) : ((n : Int) != 0) = decide (n ≠ 0) := by
  rw [Bool.eq_iff_iff]; simp
theorem Valid_pure (neg : Bool) (xs : List Nat) (hpre : xs.length ≤ 1000000000000) : PureJ Try.prog 21 [.agg [.v (.bool neg), .ro xs.length (u32s xs)]] (.v (.bool (validL neg xs))) := by
  refine pureJ_of_vcx (call := noCalls) (lp := fun _ => none) (N := 10) T_ok mixed noCalls_ok Try.func21 rfl (by decide) (by kernel_rfl) (by kernel_rfl) (LpAll.none _) (by first | trivial | (simp only [NamelessL, Nameless, and_self, and_true, true_and]; done) | (simp [NamelessL, Nameless, u32s_nameless, namelessL_ints]; done)) (by first | trivial | (simp only [NamelessL, Nameless, and_self, and_true, true_and]; done) | (simp [NamelessL, Nameless, u32s_nameless, namelessL_ints]; done)) ?_
  refine of_eq (B := (True ∧ (True ∧ (True ∧ (((1 : Nat) < (2 : Nat)) ∧ (True ∧ (True ∧ (True ∧ (True ∧ (True ∧ (pcond (Decidable.decide ((400 : Int) < (((List.length xs) : Nat) : Int))) ((([] : List Value) = ([] : List Value)) ∧ ((([] : List Value) = ([] : List Value)) ∧ (True ∧ (True ∧ (True ∧ (True ∧ ((D.v (Value.bool Bool.false)) = (D.v (Value.bool (validL neg xs)))))))))) (True ∧ (True ∧ (True ∧ (pcond ((((List.length xs) : Nat) : Int) == (0 : Int)) (True ∧ ((((0 : Nat) < (2 : Nat)) ∧ (IsBool (D.v (Value.bool neg)))) ∧ (True ∧ (True ∧ (pcond neg (True ∧ (True ∧ (True ∧ ((D.v (Value.bool Bool.false)) = (D.v (Value.bool (validL neg xs))))))) (True ∧ (True ∧ (True ∧ (pcond ((((List.length xs) : Nat) : Int) == (0 : Int)) (True ∧ (True ∧ (True ∧ (True ∧ ((D.v (Value.bool Bool.true)) = (D.v (Value.bool (validL neg xs)))))))) (True ∧ (((1 : Nat) < (2 : Nat)) ∧ (True ∧ (True ∧ ((((0 : Int) ≤ (IntKind.wrap IntKind.i64 ((((List.length xs) : Nat) : Int) - (1 : Int)))) ∧ ((IntKind.wrap IntKind.i64 ((((List.length xs) : Nat) : Int) - (1 : Int))) < (((List.length xs) : Nat) : Int))) ∧ (((((Int.toNat (IntKind.wrap IntKind.i64 ((((List.length xs) : Nat) : Int) - (1 : Int)))) * (1 : Nat)) < (List.length (u32s xs))) ∧ (IsInt IntKind.u32 (List.getD (u32s xs) ((Int.toNat (IntKind.wrap IntKind.i64 ((((List.length xs) : Nat) : Int) - (1 : Int)))) * (1 : Nat)) (Inhabited.default)))) ∧ (True ∧ (True ∧ (True ∧ (True ∧ (True ∧ ((D.v (Value.bool ((cellInt (List.getD (u32s xs) ((Int.toNat (IntKind.wrap IntKind.i64 ((((List.length xs) : Nat) : Int) - (1 : Int)))) * (1 : Nat)) (Inhabited.default))) != (0 : Int)))) = (D.v (Value.bool (validL neg xs)))))))))))))))))))))))) (True ∧ (True ∧ (True ∧ (True ∧ (True ∧ (pcond ((((List.length xs) : Nat) : Int) == (0 : Int)) (True ∧ (True ∧ (True ∧ (True ∧ ((D.v (Value.bool Bool.true)) = (D.v (Value.bool (validL neg xs)))))))) (True ∧ (((1 : Nat) < (2 : Nat)) ∧ (True ∧ (True ∧ ((((0 : Int) ≤ (IntKind.wrap IntKind.i64 ((((List.length xs) : Nat) : Int) - (1 : Int)))) ∧ ((IntKind.wrap IntKind.i64 ((((List.length xs) : Nat) : Int) - (1 : Int))) < (((List.length xs) : Nat) : Int))) ∧ (((((Int.toNat (IntKind.wrap IntKind.i64 ((((List.length xs) : Nat) : Int) - (1 : Int)))) * (1 : Nat)) < (List.length (u32s xs))) ∧ (IsInt IntKind.u32 (List.getD (u32s xs) ((Int.toNat (IntKind.wrap IntKind.i64 ((((List.length xs) : Nat) : Int) - (1 : Int)))) * (1 : Nat)) (Inhabited.default)))) ∧ (True ∧ (True ∧ (True ∧ (True ∧ (True ∧ ((D.v (Value.bool ((cellInt (List.getD (u32s xs) ((Int.toNat (IntKind.wrap IntKind.i64 ((((List.length xs) : Nat) : Int) - (1 : Int)))) * (1 : Nat)) (Inhabited.default))) != (0 : Int)))) = (D.v (Value.bool (validL neg xs)))))))))))))))))))))))))))))))))))) (by kernel_rfl) ?_
  simp only [true_and, and_true, and_self, IsInt_lit, IsBool_lit, IsStr_lit, Bool.not_eq_true', Bool.not_eq_false', Bool.not_true, Bool.not_false, Int.reduceLE, Int.reduceLT, Int.reduceNeg, Nat.le_refl, Int.le_refl, Nat.reduceLT, Nat.reduceLeDiff, Nat.reduceEqDiff, D.v.injEq, D.tup.injEq, D.agg.injEq, D.ro.injEq, List.cons.injEq, Value.int.injEq, Value.bool.injEq, pcond_true, pcond_false, NamelessL, Nameless, Nat.reduceMul, Nat.reduceAdd, Nat.zero_add, Int.toNat_natCast, unu_u32s, cast_eq0, cast_ne0]
  rcases Nat.eq_zero_or_pos xs.length with h0 | h0
  · simp [h0, validL]
    cases neg <;> simp [pcond]
  · have e : IntKind.i64.wrap ((xs.length : Int) - 1) = ((xs.length - 1 : Nat) : Int) := by rw [wrap_i64_of (by omega) (by omega)]; omega
    have hne : ¬ xs.length = 0 := by omega
    simp only [e, Int.toNat_natCast, Nat.mul_one, u32s_cell, u32s_length, u32s_isInt _ _ (show xs.length - 1 < xs.length by omega), cast_ne0, hne, decide_false, pcond_false, and_true]
    refine pcond_intro (fun h => ?_) (fun h => ⟨⟨by omega, by omega⟩, by omega, ?_⟩)
    · simp only [decide_eq_true_eq] at h
      have : ¬ xs.length ≤ 400 := by omega
      simp [validL, hne, this]
    · simp only [decide_eq_false_iff_not] at h
      have : xs.length ≤ 400 := by omega
      simp [validL, hne, this]
def ent_Valid : Ent := fun ds => match ds with
  | [.agg [.v (.bool neg), .ro n_xs ys_xs]] => some (.v (.bool (validL neg (unu ys_xs))), (ys_xs = u32s (unu ys_xs) ∧ n_xs = (unu ys_xs).length) ∧ (unu ys_xs).length ≤ 1000000000000)
  | _ => none
theorem ent_Valid_ok : EntOk Try.prog 21 ent_Valid := by
  intro ds d c h hc; unfold ent_Valid at h; split at h
  · rename_i neg n_xs ys_xs; obtain ⟨rfl, rfl⟩ := pair_inj h
    obtain ⟨⟨h1, h2⟩, hc⟩ := hc; subst h2; generalize (unu ys_xs) = xs at *; subst h1
    exact Valid_pure _ xs hc
  · cases h
def cmpTop (xs ys : List Nat) : Nat → Int
  | 0 => 0
  | n + 1 => if xs.getD n 0 < ys.getD n 0 then -1 else if ys.getD n 0 < xs.getD n 0 then 1 else cmpTop xs ys n
def cmpL (xs ys : List Nat) : Int := if xs.length ≠ ys.length then (if xs.length < ys.length then -1 else 1) else cmpTop xs ys xs.length
def lp_cmpLoop (xs ys : List Nat) : LoopO := loopRule2 (α := Nat) (β := Unit) (γ := Unit) [] (fun k => (xs.length = ys.length ∧ k ≤ xs.length) ∧ cmpTop xs ys k = cmpTop xs ys xs.length) (fun k => [(0, .ro xs.length (u32s xs)), (1, .ro ys.length (u32s ys)), (5, .v (.int .i64 ((k : Int) - 1)))]) (fun _ => []) (xs.length) (fun _ => cmpTop xs ys xs.length = 0) (fun _ => (.exit 0, [], [])) (fun _ => True) (fun _ => (.ret, [(4, .v (.int .i64 (cmpTop xs ys xs.length)))], []))
theorem cmpLoop_rule (xs ys : List Nat) (hpre : xs.length ≤ 1000000000000) : LRuleP Try.prog Try.f61.ntmps (loopAt ((Try.f61.body).getD .skip) 6) (lp_cmpLoop xs ys) := by
  refine lrule_of2 (α := Nat) (β := Unit) (γ := Unit) (call := noCalls) (lp := fun _ => none) (N := 10) T_ok mixed noCalls_ok (fun k => k) (by kernel_rfl) (LpAllP.none _) ?_
  intro x hJ
  refine of_eq (B := (True ∧ (True ∧ (pcond (Decidable.decide ((0 : Int) ≤ (((x : Nat) : Int) - (1 : Int)))) (True ∧ (True ∧ ((((0 : Int) ≤ (((x : Nat) : Int) - (1 : Int))) ∧ ((((x : Nat) : Int) - (1 : Int)) < (((List.length xs) : Nat) : Int))) ∧ (((((Int.toNat (((x : Nat) : Int) - (1 : Int))) * (1 : Nat)) < (List.length (u32s xs))) ∧ (IsInt IntKind.u32 (List.getD (u32s xs) ((Int.toNat (((x : Nat) : Int) - (1 : Int))) * (1 : Nat)) (Inhabited.default)))) ∧ (True ∧ (True ∧ ((((0 : Int) ≤ (((x : Nat) : Int) - (1 : Int))) ∧ ((((x : Nat) : Int) - (1 : Int)) < (((List.length ys) : Nat) : Int))) ∧ (((((Int.toNat (((x : Nat) : Int) - (1 : Int))) * (1 : Nat)) < (List.length (u32s ys))) ∧ (IsInt IntKind.u32 (List.getD (u32s ys) ((Int.toNat (((x : Nat) : Int) - (1 : Int))) * (1 : Nat)) (Inhabited.default)))) ∧ (True ∧ ((Bool.true = Bool.true) ∧ (pcond (Decidable.decide ((cellInt (List.getD (u32s xs) ((Int.toNat (((x : Nat) : Int) - (1 : Int))) * (1 : Nat)) (Inhabited.default))) < (cellInt (List.getD (u32s ys) ((Int.toNat (((x : Nat) : Int) - (1 : Int))) * (1 : Nat)) (Inhabited.default))))) (True ∧ ((∃ (r : Unit), (∃ (kp : (List (Option Nat))), (((cmpTop xs ys (List.length xs)) = (0 : Int)) ∧ ((Exit.ret = (Exit.exit (0 : Nat))) ∧ (viewAll kp ([] : List (Prod Nat D)) ([] : List (Option Blk)) (Prod.fst (Prod.snd ((fun (x_1 : Unit) => (Prod.mk (Exit.exit (0 : Nat)) (Prod.mk ([] : List (Prod Nat D)) ([] : List (Option Blk))))) r))) (Prod.snd (Prod.snd ((fun (x_1 : Unit) => (Prod.mk (Exit.exit (0 : Nat)) (Prod.mk ([] : List (Prod Nat D)) ([] : List (Option Blk))))) r)))))))) ∨ (∃ (r : Unit), (∃ (kp : (List (Option Nat))), (True ∧ ((Exit.ret = Exit.ret) ∧ (viewAll kp [(Prod.mk (4 : Nat) (D.v (Value.int IntKind.i64 (-(1 : Int)))))] ([] : List (Option Blk)) (Prod.fst (Prod.snd ((fun (x_1 : Unit) => (Prod.mk Exit.ret (Prod.mk [(Prod.mk (4 : Nat) (D.v (Value.int IntKind.i64 (cmpTop xs ys (List.length xs)))))] ([] : List (Option Blk))))) r))) (Prod.snd (Prod.snd ((fun (x_1 : Unit) => (Prod.mk Exit.ret (Prod.mk [(Prod.mk (4 : Nat) (D.v (Value.int IntKind.i64 (cmpTop xs ys (List.length xs)))))] ([] : List (Option Blk))))) r)))))))))) (True ∧ (True ∧ ((((0 : Int) ≤ (((x : Nat) : Int) - (1 : Int))) ∧ ((((x : Nat) : Int) - (1 : Int)) < (((List.length xs) : Nat) : Int))) ∧ (((((Int.toNat (((x : Nat) : Int) - (1 : Int))) * (1 : Nat)) < (List.length (u32s xs))) ∧ (IsInt IntKind.u32 (List.getD (u32s xs) ((Int.toNat (((x : Nat) : Int) - (1 : Int))) * (1 : Nat)) (Inhabited.default)))) ∧ (True ∧ (True ∧ ((((0 : Int) ≤ (((x : Nat) : Int) - (1 : Int))) ∧ ((((x : Nat) : Int) - (1 : Int)) < (((List.length ys) : Nat) : Int))) ∧ (((((Int.toNat (((x : Nat) : Int) - (1 : Int))) * (1 : Nat)) < (List.length (u32s ys))) ∧ (IsInt IntKind.u32 (List.getD (u32s ys) ((Int.toNat (((x : Nat) : Int) - (1 : Int))) * (1 : Nat)) (Inhabited.default)))) ∧ (True ∧ ((Bool.true = Bool.true) ∧ (pcond (Decidable.decide ((cellInt (List.getD (u32s ys) ((Int.toNat (((x : Nat) : Int) - (1 : Int))) * (1 : Nat)) (Inhabited.default))) < (cellInt (List.getD (u32s xs) ((Int.toNat (((x : Nat) : Int) - (1 : Int))) * (1 : Nat)) (Inhabited.default))))) (True ∧ ((∃ (r : Unit), (∃ (kp : (List (Option Nat))), (((cmpTop xs ys (List.length xs)) = (0 : Int)) ∧ ((Exit.ret = (Exit.exit (0 : Nat))) ∧ (viewAll kp ([] : List (Prod Nat D)) ([] : List (Option Blk)) (Prod.fst (Prod.snd ((fun (x_1 : Unit) => (Prod.mk (Exit.exit (0 : Nat)) (Prod.mk ([] : List (Prod Nat D)) ([] : List (Option Blk))))) r))) (Prod.snd (Prod.snd ((fun (x_1 : Unit) => (Prod.mk (Exit.exit (0 : Nat)) (Prod.mk ([] : List (Prod Nat D)) ([] : List (Option Blk))))) r)))))))) ∨ (∃ (r : Unit), (∃ (kp : (List (Option Nat))), (True ∧ ((Exit.ret = Exit.ret) ∧ (viewAll kp [(Prod.mk (4 : Nat) (D.v (Value.int IntKind.i64 (1 : Int))))] ([] : List (Option Blk)) (Prod.fst (Prod.snd ((fun (x_1 : Unit) => (Prod.mk Exit.ret (Prod.mk [(Prod.mk (4 : Nat) (D.v (Value.int IntKind.i64 (cmpTop xs ys (List.length xs)))))] ([] : List (Option Blk))))) r))) (Prod.snd (Prod.snd ((fun (x_1 : Unit) => (Prod.mk Exit.ret (Prod.mk [(Prod.mk (4 : Nat) (D.v (Value.int IntKind.i64 (cmpTop xs ys (List.length xs)))))] ([] : List (Option Blk))))) r)))))))))) (True ∧ (True ∧ (True ∧ (∃ (y : Nat), (∃ (kp : (List (Option Nat))), ((y < x) ∧ (((((List.length xs) = (List.length ys)) ∧ (y ≤ (List.length xs))) ∧ ((cmpTop xs ys y) = (cmpTop xs ys (List.length xs)))) ∧ (viewAll kp [(Prod.mk (0 : Nat) (D.ro (List.length xs) (u32s xs))), (Prod.mk (1 : Nat) (D.ro (List.length ys) (u32s ys))), (Prod.mk (5 : Nat) (D.v (Value.int IntKind.i64 (IntKind.wrap IntKind.i64 ((((x : Nat) : Int) - (1 : Int)) - (1 : Int))))))] ([] : List (Option Blk)) [(Prod.mk (0 : Nat) (D.ro (List.length xs) (u32s xs))), (Prod.mk (1 : Nat) (D.ro (List.length ys) (u32s ys))), (Prod.mk (5 : Nat) (D.v (Value.int IntKind.i64 (((y : Nat) : Int) - (1 : Int)))))] ([] : List (Option Blk)))))))))))))))))))))))))))))))) ((∃ (r : Unit), (∃ (kp : (List (Option Nat))), (((cmpTop xs ys (List.length xs)) = (0 : Int)) ∧ (((Exit.exit (0 : Nat)) = (Exit.exit (0 : Nat))) ∧ (viewAll kp ([] : List (Prod Nat D)) ([] : List (Option Blk)) (Prod.fst (Prod.snd ((fun (x_1 : Unit) => (Prod.mk (Exit.exit (0 : Nat)) (Prod.mk ([] : List (Prod Nat D)) ([] : List (Option Blk))))) r))) (Prod.snd (Prod.snd ((fun (x_1 : Unit) => (Prod.mk (Exit.exit (0 : Nat)) (Prod.mk ([] : List (Prod Nat D)) ([] : List (Option Blk))))) r)))))))) ∨ (∃ (r : Unit), (∃ (kp : (List (Option Nat))), (True ∧ (((Exit.exit (0 : Nat)) = Exit.ret) ∧ (viewAll kp ([] : List (Prod Nat D)) ([] : List (Option Blk)) (Prod.fst (Prod.snd ((fun (x_1 : Unit) => (Prod.mk Exit.ret (Prod.mk [(Prod.mk (4 : Nat) (D.v (Value.int IntKind.i64 (cmpTop xs ys (List.length xs)))))] ([] : List (Option Blk))))) r))) (Prod.snd (Prod.snd ((fun (x_1 : Unit) => (Prod.mk Exit.ret (Prod.mk [(Prod.mk (4 : Nat) (D.v (Value.int IntKind.i64 (cmpTop xs ys (List.length xs)))))] ([] : List (Option Blk))))) r))))))))))))) (by kernel_rfl) ?_
  obtain ⟨⟨hl, hx⟩, ht⟩ := hJ
  have hb := hpre
  simp only [true_and, and_true, and_self, IsInt_lit, IsBool_lit, IsStr_lit, Bool.not_eq_true', Bool.not_eq_false', Bool.not_true, Bool.not_false, Int.reduceLE, Int.reduceLT, Int.reduceNeg, Nat.le_refl, Int.le_refl, Nat.reduceLT, Nat.reduceLeDiff, Nat.reduceEqDiff, D.v.injEq, D.tup.injEq, D.agg.injEq, D.ro.injEq, List.cons.injEq, Value.int.injEq, Value.bool.injEq, pcond_true, pcond_false, NamelessL, Nameless, Nat.reduceMul, Nat.reduceAdd, Nat.zero_add, Int.toNat_natCast]
  refine pcond_intro (fun h => ?_) (fun h => .inl ⟨(), [], ?_, ?_⟩)
  · simp only [decide_eq_true_eq] at h
    obtain ⟨j, rfl⟩ : ∃ j, x = j + 1 := ⟨x - 1, by omega⟩
    have e : ((j + 1 : Nat) : Int) - 1 = (j : Int) := by omega
    have w : IntKind.i64.wrap ((j : Int) - 1) = (j : Int) - 1 := wrap_i64_of (by omega) (by omega)
    simp only [e, w, Int.toNat_natCast, Nat.mul_one, u32s_cell, u32s_length, u32s_isInt _ _ (show j < xs.length by omega), u32s_isInt _ _ (show j < ys.length by omega), and_true, Int.ofNat_lt]
    simp only [tn, cmpTop] at ht
    refine ⟨⟨by omega, by omega⟩, by omega, ⟨by omega, by omega⟩, by omega, pcond_intro (fun h1 => .inr ⟨(), [], ?_⟩) (fun h1 => ⟨⟨by omega, by omega⟩, by omega, ⟨by omega, by omega⟩, by omega, pcond_intro (fun h2 => .inr ⟨(), [], ?_⟩) (fun h2 => ⟨j, [], by omega, ⟨⟨hl, by omega⟩, ?_⟩, ?_⟩)⟩)⟩
    all_goals simp only [decide_eq_true_eq, decide_eq_false_iff_not] at *
    · rw [if_pos h1] at ht
      refine of_eq (B := ((Bool.true = Bool.true) ∧ ((([] : List (Option Blk)) = ([] : List (Option Blk))) ∧ ((True ∧ ((D.v (Value.int IntKind.i64 (-(1 : Int)))) = (D.v (Value.int IntKind.i64 (cmpTop xs ys (List.length xs)))))) ∧ True)))) (by kernel_rfl) ?_
      simp [ht]
    · rw [if_neg h1, if_pos h2] at ht
      refine of_eq (B := ((Bool.true = Bool.true) ∧ ((([] : List (Option Blk)) = ([] : List (Option Blk))) ∧ ((True ∧ ((D.v (Value.int IntKind.i64 (1 : Int))) = (D.v (Value.int IntKind.i64 (cmpTop xs ys (List.length xs)))))) ∧ True)))) (by kernel_rfl) ?_
      simp [ht]
    · rw [if_neg h1, if_neg h2] at ht
      exact ht
    · refine of_eq (B := ((Bool.true = Bool.true) ∧ ((([] : List (Option Blk)) = ([] : List (Option Blk))) ∧ ((True ∧ ((D.ro (List.length xs) (u32s xs)) = (D.ro (List.length xs) (u32s xs)))) ∧ ((True ∧ ((D.ro (List.length ys) (u32s ys)) = (D.ro (List.length ys) (u32s ys)))) ∧ ((True ∧ ((D.v (Value.int IntKind.i64 (((j : Nat) : Int) - (1 : Int)))) = (D.v (Value.int IntKind.i64 (((j : Nat) : Int) - (1 : Int)))))) ∧ True)))))) (by kernel_rfl) ?_
      simp
  · simp only [decide_eq_false_iff_not] at h
    have : x = 0 := by omega
    subst this
    rw [← ht]; rfl
  · refine of_eq (B := ((Bool.true = Bool.true) ∧ ((([] : List (Option Blk)) = ([] : List (Option Blk))) ∧ True))) (by kernel_rfl) ?_
    simp
theorem cmpr_pure (xs ys : List Nat) (hpre : xs.length ≤ 1000000000000) : PureJ Try.prog 61 [.ro xs.length (u32s xs), .ro ys.length (u32s ys)] (.v (.int .i64 (cmpL xs ys))) := by
  refine pureJ_of_vcp (call := noCalls) (lp := fun k => bif Nat.beq k 6 then some (lp_cmpLoop xs ys) else none) (N := 10) T_ok mixed noCalls_ok Try.func61 rfl (by decide) (by kernel_rfl) (by kernel_rfl) (of_eq (B := LRuleP Try.prog Try.f61.ntmps (loopAt ((Try.f61.body).getD .skip) 6) (lp_cmpLoop xs ys) ∧ True) (by kernel_rfl) ⟨cmpLoop_rule xs ys hpre, trivial⟩) (by first | trivial | (simp only [NamelessL, Nameless, and_self, and_true, true_and]; done) | (simp [NamelessL, Nameless, u32s_nameless, namelessL_ints]; done)) (by first | trivial | (simp only [NamelessL, Nameless, and_self, and_true, true_and]; done) | (simp [NamelessL, Nameless, u32s_nameless, namelessL_ints]; done)) ?_
  refine of_eq (B := (True ∧ (True ∧ (True ∧ (True ∧ (True ∧ (True ∧ (pcond ((((List.length xs) : Nat) : Int) != (((List.length ys) : Nat) : Int)) (True ∧ (True ∧ (True ∧ (True ∧ (True ∧ (pcond (Decidable.decide ((((List.length xs) : Nat) : Int) < (((List.length ys) : Nat) : Int))) (True ∧ (True ∧ (True ∧ ((D.v (Value.int IntKind.i64 (-(1 : Int)))) = (D.v (Value.int IntKind.i64 (cmpL xs ys))))))) (True ∧ (True ∧ (True ∧ ((D.v (Value.int IntKind.i64 (1 : Int))) = (D.v (Value.int IntKind.i64 (cmpL xs ys))))))))))))) (True ∧ (True ∧ (True ∧ (True ∧ (((((List.length xs) = (List.length ys)) ∧ ((List.length xs) ≤ (List.length xs))) ∧ ((cmpTop xs ys (List.length xs)) = (cmpTop xs ys (List.length xs)))) ∧ (((Bool.true = Bool.true) ∧ ((([] : List (Option Blk)) = ([] : List (Option Blk))) ∧ ((True ∧ ((D.ro (List.length xs) (u32s xs)) = (D.ro (List.length xs) (u32s xs)))) ∧ ((True ∧ ((D.ro (List.length ys) (u32s ys)) = (D.ro (List.length ys) (u32s ys)))) ∧ ((True ∧ ((D.v (Value.int IntKind.i64 (IntKind.wrap IntKind.i64 ((((List.length xs) : Nat) : Int) - (1 : Int))))) = (D.v (Value.int IntKind.i64 ((((List.length xs) : Nat) : Int) - (1 : Int)))))) ∧ True))))) ∧ ((Unit → (((cmpTop xs ys (List.length xs)) = (0 : Int)) → (True ∧ (True ∧ (True ∧ ((D.v (Value.int IntKind.i64 (0 : Int))) = (D.v (Value.int IntKind.i64 (cmpL xs ys))))))))) ∧ (Unit → (True → (True ∧ (True ∧ ((D.v (Value.int IntKind.i64 (cmpTop xs ys (List.length xs)))) = (D.v (Value.int IntKind.i64 (cmpL xs ys))))))))))))))))))))))) (by kernel_rfl) ?_
  simp only [true_and, and_true, and_self, IsInt_lit, IsBool_lit, IsStr_lit, Bool.not_eq_true', Bool.not_eq_false', Bool.not_true, Bool.not_false, Int.reduceLE, Int.reduceLT, Int.reduceNeg, Nat.le_refl, Int.le_refl, Nat.reduceLT, Nat.reduceLeDiff, Nat.reduceEqDiff, D.v.injEq, D.tup.injEq, D.agg.injEq, D.ro.injEq, List.cons.injEq, Value.int.injEq, Value.bool.injEq, pcond_true, pcond_false, NamelessL, Nameless, Nat.reduceMul, Nat.reduceAdd, Nat.zero_add, Int.toNat_natCast]
  refine pcond_intro (fun h => ?_) (fun h => ?_)
  · have hne : xs.length ≠ ys.length := by simp at h; omega
    refine pcond_intro (fun h1 => ?_) (fun h1 => ?_)
    · have : xs.length < ys.length := by simpa using h1
      simp [cmpL, hne, this]
    · have : ¬ xs.length < ys.length := by simpa using h1
      simp [cmpL, hne, this]
  · have he : xs.length = ys.length := by simp at h; omega
    refine ⟨he, wrap_i64_of (by omega) (by omega), fun _ h => ?_, fun _ _ => ?_⟩
    · simp [cmpL, he]; rw [← he]; exact h.symm
    · simp [cmpL, he]
def ent_cmpr : Ent := fun ds => match ds with
  | [.ro n_xs ys_xs, .ro n_ys ys_ys] => some (.v (.int .i64 (cmpL (unu ys_xs) (unu ys_ys))), (ys_ys = u32s (unu ys_ys) ∧ n_ys = (unu ys_ys).length) ∧ (ys_xs = u32s (unu ys_xs) ∧ n_xs = (unu ys_xs).length) ∧ (unu ys_xs).length ≤ 1000000000000)
  | _ => none
theorem ent_cmpr_ok : EntOk Try.prog 61 ent_cmpr := by
  intro ds d c h hc; unfold ent_cmpr at h; split at h
  · rename_i n_xs ys_xs n_ys ys_ys; obtain ⟨rfl, rfl⟩ := pair_inj h
    obtain ⟨⟨h1, h2⟩, hc⟩ := hc; subst h2; generalize (unu ys_ys) = ys at *; subst h1
    obtain ⟨⟨h1, h2⟩, hc⟩ := hc; subst h2; generalize (unu ys_xs) = xs at *; subst h1
    exact cmpr_pure xs ys hc
  · cases h
def cmpI (xn : Bool) (xs : List Nat) (yn : Bool) (ys : List Nat) : Int :=
  if validL xn xs = false then 0 else if validL yn ys = false then 0 else if xn ≠ yn then (if xn then -1 else 1) else if xn then cmpL ys xs else cmpL xs ys
theorem result_pure (neg : Bool) (xs : List Nat) (hpre : xs.length ≤ 400) : PureJ Try.prog 59 [.agg [.v (.bool neg), .ro xs.length (u32s xs)]] (.tup [d_int neg xs, .v (.int .i64 0)]) := by
  refine pureJ_of_vcx (call := noCalls) (lp := fun _ => none) (N := 10) T_ok mixed noCalls_ok Try.func59 rfl (by decide) (by kernel_rfl) (by kernel_rfl) (LpAll.none _) (by first | trivial | (simp only [NamelessL, Nameless, and_self, and_true, true_and]; done) | (simp [NamelessL, Nameless, u32s_nameless, namelessL_ints, d_int]; done)) (by first | trivial | (simp only [NamelessL, Nameless, and_self, and_true, true_and]; done) | (simp [NamelessL, Nameless, u32s_nameless, namelessL_ints, d_int]; done)) ?_
  refine of_eq (B := (True ∧ (True ∧ (True ∧ (True ∧ (((1 : Nat) < (2 : Nat)) ∧ (True ∧ (True ∧ (pcond (Decidable.decide ((400 : Int) < (((List.length xs) : Nat) : Int))) (True ∧ ((((2 : Nat) = (2 : Nat)) ∧ ((2 : Nat) ≤ (2 : Nat))) ∧ (True ∧ ((((2 : Nat) ≤ (2 : Nat)) ∧ True) ∧ (((True ∧ (True ∧ True)) ∧ (True ∧ True)) ∧ ((D.tup [(D.agg [(D.v (Value.bool Bool.false)), (D.v (Value.slice (Option.none) (0 : Nat) (0 : Nat)))]), (D.v (Value.int IntKind.i64 (2 : Int)))]) = (D.tup [(D.agg [(D.v (Value.bool neg)), (D.ro (List.length xs) (u32s xs))]), (D.v (Value.int IntKind.i64 (0 : Int)))]))))))) (((2 : Nat) ≤ (2 : Nat)) ∧ ((((2 : Nat) = (2 : Nat)) ∧ ((2 : Nat) ≤ (2 : Nat))) ∧ (True ∧ ((((2 : Nat) ≤ (2 : Nat)) ∧ True) ∧ (((True ∧ (True ∧ True)) ∧ (True ∧ True)) ∧ ((D.tup [(D.agg [(D.v (Value.bool neg)), (D.ro (List.length xs) (u32s xs))]), (D.v (Value.int IntKind.i64 (0 : Int)))]) = (D.tup [(D.agg [(D.v (Value.bool neg)), (D.ro (List.length xs) (u32s xs))]), (D.v (Value.int IntKind.i64 (0 : Int)))])))))))))))))))) (by kernel_rfl) ?_
  simp only [true_and, and_true, and_self, IsInt_lit, IsBool_lit, IsStr_lit, Bool.not_eq_true', Bool.not_eq_false', Bool.not_true, Bool.not_false, Int.reduceLE, Int.reduceLT, Int.reduceNeg, Nat.le_refl, Int.le_refl, Nat.reduceLT, Nat.reduceLeDiff, Nat.reduceEqDiff, D.v.injEq, D.tup.injEq, D.agg.injEq, D.ro.injEq, List.cons.injEq, Value.int.injEq, Value.bool.injEq, pcond_true, pcond_false, NamelessL, Nameless, Nat.reduceMul, Nat.reduceAdd, Nat.zero_add, Int.toNat_natCast]
  refine pcond_intro (fun h => ?_) (fun h => ?_)
  · simp only [decide_eq_true_eq] at h; omega
  · simp
def ent_result : Ent := fun ds => match ds with
  | [.agg [.v (.bool neg), .ro n_xs ys_xs]] => some (.tup [d_int neg (unu ys_xs), .v (.int .i64 0)], (ys_xs = u32s (unu ys_xs) ∧ n_xs = (unu ys_xs).length) ∧ (unu ys_xs).length ≤ 400)
  | _ => none
theorem ent_result_ok : EntOk Try.prog 59 ent_result := by
  intro ds d c h hc; unfold ent_result at h; split at h
  · rename_i neg n_xs ys_xs; obtain ⟨rfl, rfl⟩ := pair_inj h
    obtain ⟨⟨h1, h2⟩, hc⟩ := hc; subst h2; generalize (unu ys_xs) = xs at *; subst h1
    exact result_pure _ xs hc
  · cases h
end Go.Proofs.Ythnhfkpihbjddaa
