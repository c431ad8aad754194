import Derived.Test.YthnhfkpihbjddaaZKv6
section
namespace Go.Proofs.Ythnhfkpihbjddaa
open Go.VD
set_option linter.unusedVariables false
set_option linter.unusedSimpArgs false
set_option maxRecDepth 100000
theorem unu_two (a b : Nat) : unu [.v (.int .u32 (a : Int)), .v (.int .u32 (b : Int))] = [a, b] := unu_u32s [a, b]
def d_int (neg : Bool) (xs : List Nat) : D := .agg [.v (.bool neg), .ro xs.length (u32s xs)]
def madeN (neg : Bool) (xs : List Nat) : Bool := neg && decide (0 < (trimL xs).length)
theorem made_pure (neg : Bool) (xs : List Nat) (hpre : xs.length ≤ 1000000) : PureJ Try.prog 60 [.v (.bool neg), .ro xs.length (u32s xs)] (d_int (madeN neg xs) (trimL xs)) := by
  refine pureJ_of_vcx (call := (addPure 56 ent_trim noCalls)) (lp := fun _ => none) (N := 10) T_ok mixed (addPure_ok ent_trim_ok noCalls_ok) Try.func60 rfl (by decide) (by kernel_rfl) (by kernel_rfl) (LpAll.none _) (by first | trivial | (simp only [NamelessL, Nameless, and_self, and_true, true_and]; done) | (simp [NamelessL, Nameless, u32s_nameless, namelessL_ints, d_int]; done)) (by first | trivial | (simp only [NamelessL, Nameless, and_self, and_true, true_and]; done) | (simp [NamelessL, Nameless, u32s_nameless, namelessL_ints, d_int]; done)) ?_
  refine of_eq (B := letI z0 := (D.agg [(D.v (Value.bool (madeN neg xs))), (D.ro (List.length (trimL xs)) (u32s (trimL xs)))]); letI z1 := (unu (u32s xs)); letI z2 := ((2 : Nat) ≤ (2 : Nat)); letI z6 := (List.length (trimL z1)); letI z3 := (D.ro z6 (u32s (trimL z1))); letI z4 := (((2 : Nat) = (2 : Nat)) ∧ z2); letI z5 := (True ∧ (True ∧ True)); (True ∧ (True ∧ (((((u32s xs) = (u32s z1)) ∧ ((List.length xs) = (List.length z1))) ∧ ((List.length z1) ≤ (1000000 : Nat))) ∧ (True ∧ (True ∧ (True ∧ (pcond neg (True ∧ (True ∧ (True ∧ (True ∧ (True ∧ (True ∧ (z4 ∧ ((z2 ∧ True) ∧ (z5 ∧ ((D.agg [(D.v (Value.bool (Decidable.decide ((0 : Int) < ((z6 : Nat) : Int))))), z3]) = z0)))))))))) (True ∧ (True ∧ (True ∧ (z4 ∧ ((z2 ∧ True) ∧ (z5 ∧ ((D.agg [(D.v (Value.bool Bool.false)), z3]) = z0))))))))))))))) (by kernel_rfl) ?_
  simp only [true_and, and_true, and_self, IsInt_lit, IsBool_lit, IsStr_lit, Bool.not_eq_true', Bool.not_eq_false', Bool.not_true, Bool.not_false, Int.reduceLE, Int.reduceLT, Int.reduceNeg, Nat.le_refl, Int.le_refl, Nat.reduceLT, Nat.reduceLeDiff, Nat.reduceEqDiff, D.v.injEq, D.tup.injEq, D.agg.injEq, D.ro.injEq, List.cons.injEq, Value.int.injEq, Value.bool.injEq, pcond_true, pcond_false, NamelessL, Nameless, Nat.reduceMul, Nat.reduceAdd, Nat.zero_add, Int.toNat_natCast, unu_u32s]
  have e : decide (0 < ((trimL xs).length : Int)) = decide (0 < (trimL xs).length) := by rw [decide_eq_decide]; omega
  refine ⟨hpre, pcond_intro (fun h => ?_) (fun h => ?_)⟩ <;> simp [madeN, h]
def ent_made : Ent := fun ds => match ds with
  | [.v (.bool neg), .ro n_xs ys_xs] => some (d_int (madeN neg (unu ys_xs)) (trimL (unu ys_xs)), (ys_xs = u32s (unu ys_xs) ∧ n_xs = (unu ys_xs).length) ∧ (unu ys_xs).length ≤ 1000000)
  | _ => none
theorem ent_made_ok : EntOk Try.prog 60 ent_made := by
  intro ds d c h hc; unfold ent_made at h; split at h
  · rename_i neg n_xs ys_xs; obtain ⟨rfl, rfl⟩ := pair_inj h
    obtain ⟨⟨h1, h2⟩, hc⟩ := hc; subst h2; generalize (unu ys_xs) = xs at *; subst h1
    exact made_pure _ xs hc
  · cases h
theorem digits_pure (u : Int) (hpre : 0 ≤ u ∧ u < 18446744073709551616) : PureJ Try.prog 86 [.v (.int .u64 u)] (.ro (dg u.toNat).length (u32s (dg u.toNat))) := by
  refine pureJ_of_vcx (call := (addPure 56 ent_trim noCalls)) (lp := fun _ => none) (N := 10) T_ok mixed (addPure_ok ent_trim_ok noCalls_ok) Try.func86 rfl (by decide) (by kernel_rfl) (by kernel_rfl) (LpAll.none _) (by first | trivial | (simp only [NamelessL, Nameless, and_self, and_true, true_and]; done) | (simp [NamelessL, Nameless, u32s_nameless, namelessL_ints]; done)) (by first | trivial | (simp only [NamelessL, Nameless, and_self, and_true, true_and]; done) | (simp [NamelessL, Nameless, u32s_nameless, namelessL_ints]; done)) ?_
  refine of_eq (B := letI z2 := (D.v (Value.int IntKind.u32 (IntKind.wrap IntKind.u32 u))); letI z1 := (D.v (Value.int IntKind.u32 (IntKind.wrap IntKind.u32 (Int.fdiv u (4294967296 : Int))))); letI z0 := (unu [z2, z1]); (True ∧ (True ∧ (True ∧ (True ∧ (((0 : Int) ≤ (32 : Int)) ∧ (True ∧ ((((2 : Nat) ≤ (16777216 : Nat)) ∧ ((2 : Nat) ≤ (9223372036854775807 : Nat))) ∧ (((((NamelessL [z2, z1]) ∧ (((0 : Nat) < (1 : Nat)) ∧ ((2 : Nat) ≤ (2 : Nat)))) ∧ True) ∧ ((([z2, z1] = (u32s z0)) ∧ ((2 : Nat) = (List.length z0))) ∧ ((List.length z0) ≤ (1000000 : Nat)))) ∧ (True ∧ (True ∧ (True ∧ ((D.ro (List.length (trimL z0)) (u32s (trimL z0))) = (D.ro (List.length (dg (Int.toNat u))) (u32s (dg (Int.toNat u))))))))))))))))) (by kernel_rfl) ?_
  obtain ⟨h0, h1⟩ := hpre
  obtain ⟨u, rfl⟩ := Int.eq_ofNat_of_zero_le h0
  have e1 : IntKind.u32.wrap (u : Int) = ((u % 4294967296 : Nat) : Int) := by rw [wrap_u32]; omega
  have e2 : IntKind.u32.wrap ((u : Int).fdiv 4294967296) = ((u / 4294967296 % 4294967296 : Nat) : Int) := by rw [wrap_u32, Int.fdiv_eq_ediv_of_nonneg _ (by omega)]; omega
  have ht : trimL [u % 4294967296, u / 4294967296 % 4294967296] = dg u := trimL_dgn (k := 2) (v := u) (by omega)
  simp only [true_and, and_true, and_self, IsInt_lit, IsBool_lit, IsStr_lit, Bool.not_eq_true', Bool.not_eq_false', Bool.not_true, Bool.not_false, Int.reduceLE, Int.reduceLT, Int.reduceNeg, Nat.le_refl, Int.le_refl, Nat.reduceLT, Nat.reduceLeDiff, Nat.reduceEqDiff, D.v.injEq, D.tup.injEq, D.agg.injEq, D.ro.injEq, List.cons.injEq, Value.int.injEq, Value.bool.injEq, pcond_true, pcond_false, NamelessL, Nameless, Nat.reduceMul, Nat.reduceAdd, Nat.zero_add, Int.toNat_natCast, e1, e2, unu_two, ht]
  refine ⟨⟨rfl, rfl⟩, ?_⟩
  simp
def ent_digits : Ent := fun ds => match ds with
  | [.v (.int .u64 u)] => some (.ro (dg u.toNat).length (u32s (dg u.toNat)), 0 ≤ u ∧ u < 18446744073709551616)
  | _ => none
theorem ent_digits_ok : EntOk Try.prog 86 ent_digits := by
  intro ds d c h hc; unfold ent_digits at h; split at h
  · obtain ⟨rfl, rfl⟩ := pair_inj h; exact digits_pure _ hc
  · cases h
theorem not64 (x : Nat) (h : x < 18446744073709551616) : 18446744073709551615 ^^^ x = 18446744073709551615 - x := by
  have e1 := BitVec.toNat_not (x := BitVec.ofNat 64 x)
  have e2 : ~~~(BitVec.ofNat 64 x) = BitVec.allOnes 64 ^^^ BitVec.ofNat 64 x := by rw [BitVec.xor_comm, BitVec.xor_allOnes]
  rw [e2, BitVec.toNat_xor, BitVec.toNat_allOnes, BitVec.toNat_ofNat, Nat.mod_eq_of_lt (by omega)] at e1
  simpa using e1
theorem bits_not64 (x : Int) (h0 : 0 ≤ x) (h : x < 18446744073709551616) : Go.bits .xor .u64 18446744073709551615 x = 18446744073709551615 - x := by
  obtain ⟨x, rfl⟩ := Int.eq_ofNat_of_zero_le h0
  have := bits_xor_u64_nat 18446744073709551615 x (by omega) (by omega)
  rw [not64 x (by omega)] at this
  rw [show (18446744073709551615 : Int) = ((18446744073709551615 : Nat) : Int) by rfl, this]
  omega
def ofL (n : Int) : List Nat := dg n.natAbs
theorem madeN_dg (neg : Bool) (v : Nat) : madeN neg (dg v) = (neg && decide (v ≠ 0)) ∧ trimL (dg v) = dg v := by
  have h := trimL_dig (dg_dig v)
  rw [nv_dg] at h
  refine ⟨?_, h⟩
  unfold madeN
  rw [h]
  congr 1
  rw [decide_eq_decide]
  by_cases h0 : v = 0
  · subst h0; simp [dg_zero]
  · simp [h0, dg_pos h0]
theorem dg_len64 {v : Nat} (h : v < 18446744073709551616) : (dg v).length ≤ 2 := dg_length_le (k := 2) (by omega)
theorem Of_pure (n : Int) (hpre : -9223372036854775808 ≤ n ∧ n < 9223372036854775808) : PureJ Try.prog 49 [.v (.int .i64 n)] (d_int (decide (n < 0)) (ofL n)) := by
  refine pureJ_of_vcx (call := (addPure 86 ent_digits (addPure 60 ent_made noCalls))) (lp := fun _ => none) (N := 10) T_ok mixed (addPure_ok ent_digits_ok (addPure_ok ent_made_ok noCalls_ok)) Try.func49 rfl (by decide) (by kernel_rfl) (by kernel_rfl) (LpAll.none _) (by first | trivial | (simp only [NamelessL, Nameless, and_self, and_true, true_and]; done) | (simp [NamelessL, Nameless, u32s_nameless, namelessL_ints, d_int]; done)) (by first | trivial | (simp only [NamelessL, Nameless, and_self, and_true, true_and]; done) | (simp [NamelessL, Nameless, u32s_nameless, namelessL_ints, d_int]; done)) ?_
  refine of_eq (B := letI z4 := IntKind.wrap IntKind.u64 n; letI z0 := (IntKind.wrap IntKind.u64 ((bits BinOp.xor IntKind.u64 (18446744073709551615 : Int) z4) + (1 : Int))); letI z1 := (dg (Int.toNat z4)); letI z7 := (dg (Int.toNat z0)); letI z2 := (unu (u32s z7)); letI z8 := (Decidable.decide (n < (0 : Int))); letI z3 := (D.agg [(D.v (Value.bool z8)), (D.ro (List.length (ofL n)) (u32s (ofL n)))]); letI z5 := ((2 : Nat) ≤ (2 : Nat)); letI z6 := (unu (u32s z1)); letI z9 := (((2 : Nat) = (2 : Nat)) ∧ z5); letI z10 := (18446744073709551616 : Int); letI z11 := (True ∧ (True ∧ True)); (True ∧ (True ∧ (True ∧ (pcond z8 (True ∧ (True ∧ (True ∧ (True ∧ ((((0 : Int) ≤ z0) ∧ (z0 < z10)) ∧ (((((u32s z7) = (u32s z2)) ∧ ((List.length z7) = (List.length z2))) ∧ ((List.length z2) ≤ (1000000 : Nat))) ∧ (z9 ∧ ((z5 ∧ True) ∧ (z11 ∧ ((D.agg [(D.v (Value.bool (madeN Bool.true z2))), (D.ro (List.length (trimL z2)) (u32s (trimL z2)))]) = z3)))))))))) (True ∧ (True ∧ ((((0 : Int) ≤ z4) ∧ (z4 < z10)) ∧ (((((u32s z1) = (u32s z6)) ∧ ((List.length z1) = (List.length z6))) ∧ ((List.length z6) ≤ (1000000 : Nat))) ∧ (z9 ∧ ((z5 ∧ True) ∧ (z11 ∧ ((D.agg [(D.v (Value.bool (madeN Bool.false z6))), (D.ro (List.length (trimL z6)) (u32s (trimL z6)))]) = z3))))))))))))) (by kernel_rfl) ?_
  simp only [true_and, and_true, and_self, IsInt_lit, IsBool_lit, IsStr_lit, Bool.not_eq_true', Bool.not_eq_false', Bool.not_true, Bool.not_false, Int.reduceLE, Int.reduceLT, Int.reduceNeg, Nat.le_refl, Int.le_refl, Nat.reduceLT, Nat.reduceLeDiff, Nat.reduceEqDiff, D.v.injEq, D.tup.injEq, D.agg.injEq, D.ro.injEq, List.cons.injEq, Value.int.injEq, Value.bool.injEq, pcond_true, pcond_false, NamelessL, Nameless, Nat.reduceMul, Nat.reduceAdd, Nat.zero_add, Int.toNat_natCast, unu_u32s, wrap_u64]
  refine pcond_intro (fun h => ?_) (fun h => ?_)
  · simp only [decide_eq_true_eq] at h
    rw [bits_not64 _ (by omega) (by omega)]
    have e : ((18446744073709551615 - n % 18446744073709551616 + 1) % 18446744073709551616).toNat = n.natAbs := by omega
    have hm := madeN_dg true n.natAbs
    have hl := dg_len64 (v := n.natAbs) (by omega)
    rw [e, hm.1, hm.2]
    refine ⟨⟨by omega, by omega⟩, by omega, ?_, rfl, rfl⟩
    simp [h]; omega
  · simp only [decide_eq_false_iff_not] at h
    have e : (n % 18446744073709551616).toNat = n.natAbs := by omega
    have hm := madeN_dg false n.natAbs
    have hl := dg_len64 (v := n.natAbs) (by omega)
    rw [e, hm.1, hm.2]
    refine ⟨⟨by omega, by omega⟩, by omega, ?_, rfl, rfl⟩
    simp [h]
def ent_Of : Ent := fun ds => match ds with
  | [.v (.int .i64 n)] => some (d_int (decide (n < 0)) (ofL n), -9223372036854775808 ≤ n ∧ n < 9223372036854775808)
  | _ => none
theorem ent_Of_ok : EntOk Try.prog 49 ent_Of := by
  intro ds d c h hc; unfold ent_Of at h; split at h
  · obtain ⟨rfl, rfl⟩ := pair_inj h; exact Of_pure _ hc
  · cases h
def validL (neg : Bool) (xs : List Nat) : Bool := if xs.length = 0 then !neg else decide (xs.length ≤ 400) && decide (xs.getD (xs.length - 1) 0 ≠ 0)
theorem cast_eq0 (n : Nat) : ((n : Int) == 0) = decide (n = 0) := by
  rw [Bool.eq_iff_iff]; simp
theorem cast_ne0 (n : Nat) : ((n : Int) != 0) = decide (n ≠ 0) := by
  rw [Bool.eq_iff_iff]; simp
theorem Valid_pure (neg : Bool) (xs : List Nat) (hpre : xs.length ≤ 1000000000000) : PureJ Try.prog 21 [.agg [.v (.bool neg), .ro xs.length (u32s xs)]] (.v (.bool (validL neg xs))) := by
  refine pureJ_of_vcx (call := noCalls) (lp := fun _ => none) (N := 10) T_ok mixed noCalls_ok Try.func21 rfl (by decide) (by kernel_rfl) (by kernel_rfl) (LpAll.none _) (by first | trivial | (simp only [NamelessL, Nameless, and_self, and_true, true_and]; done) | (simp [NamelessL, Nameless, u32s_nameless, namelessL_ints]; done)) (by first | trivial | (simp only [NamelessL, Nameless, and_self, and_true, true_and]; done) | (simp [NamelessL, Nameless, u32s_nameless, namelessL_ints]; done)) ?_
  refine of_eq (B := letI z2 := (((List.length xs) : Nat) : Int); letI z5 := (D.v (Value.bool (validL neg xs))); letI z8 := ((1 : Nat) < (2 : Nat)); letI z1 := (IntKind.wrap IntKind.i64 (z2 - (1 : Int))); letI z7 := ((Int.toNat z1) * (1 : Nat)); letI z4 := (List.getD (u32s xs) z7 (Inhabited.default)); letI z0 := (True ∧ (True ∧ (True ∧ (pcond (z2 == (0 : Int)) (True ∧ (True ∧ (True ∧ (True ∧ ((D.v (Value.bool Bool.true)) = z5))))) (True ∧ (z8 ∧ (True ∧ (True ∧ ((((0 : Int) ≤ z1) ∧ (z1 < z2)) ∧ (((z7 < (List.length (u32s xs))) ∧ (IsInt IntKind.u32 z4)) ∧ (True ∧ (True ∧ (True ∧ (True ∧ (True ∧ ((D.v (Value.bool ((cellInt z4) != (0 : Int)))) = z5)))))))))))))))); letI z3 := (True ∧ (True ∧ (True ∧ ((D.v (Value.bool Bool.false)) = z5)))); letI z6 := ([] : List Value); (True ∧ (True ∧ (True ∧ (z8 ∧ (True ∧ (True ∧ (True ∧ (True ∧ (True ∧ (pcond (Decidable.decide ((400 : Int) < z2)) ((z6 = z6) ∧ ((z6 = z6) ∧ (True ∧ z3))) (True ∧ (True ∧ (True ∧ (pcond (z2 == (0 : Int)) (True ∧ ((((0 : Nat) < (2 : Nat)) ∧ (IsBool (D.v (Value.bool neg)))) ∧ (True ∧ (True ∧ (pcond neg z3 z0))))) (True ∧ (True ∧ z0))))))))))))))))) (by kernel_rfl) ?_
  simp only [true_and, and_true, and_self, IsInt_lit, IsBool_lit, IsStr_lit, Bool.not_eq_true', Bool.not_eq_false', Bool.not_true, Bool.not_false, Int.reduceLE, Int.reduceLT, Int.reduceNeg, Nat.le_refl, Int.le_refl, Nat.reduceLT, Nat.reduceLeDiff, Nat.reduceEqDiff, D.v.injEq, D.tup.injEq, D.agg.injEq, D.ro.injEq, List.cons.injEq, Value.int.injEq, Value.bool.injEq, pcond_true, pcond_false, NamelessL, Nameless, Nat.reduceMul, Nat.reduceAdd, Nat.zero_add, Int.toNat_natCast, unu_u32s, cast_eq0, cast_ne0]
  rcases Nat.eq_zero_or_pos xs.length with h0 | h0
  · simp [h0, validL]
    cases neg <;> simp [pcond]
  · have e : IntKind.i64.wrap ((xs.length : Int) - 1) = ((xs.length - 1 : Nat) : Int) := by rw [wrap_i64_of (by omega) (by omega)]; omega
    have hne : ¬ xs.length = 0 := by omega
    simp only [e, Int.toNat_natCast, Nat.mul_one, u32s_cell, u32s_length, u32s_isInt _ _ (show xs.length - 1 < xs.length by omega), cast_ne0, hne, decide_false, pcond_false, and_true]
    refine pcond_intro (fun h => ?_) (fun h => ⟨⟨by omega, by omega⟩, by omega, ?_⟩)
    · simp only [decide_eq_true_eq] at h
      have : ¬ xs.length ≤ 400 := by omega
      simp [validL, hne, this]
    · simp only [decide_eq_false_iff_not] at h
      have : xs.length ≤ 400 := by omega
      simp [validL, hne, this]
def ent_Valid : Ent := fun ds => match ds with
  | [.agg [.v (.bool neg), .ro n_xs ys_xs]] => some (.v (.bool (validL neg (unu ys_xs))), (ys_xs = u32s (unu ys_xs) ∧ n_xs = (unu ys_xs).length) ∧ (unu ys_xs).length ≤ 1000000000000)
  | _ => none
theorem ent_Valid_ok : EntOk Try.prog 21 ent_Valid := by
  intro ds d c h hc; unfold ent_Valid at h; split at h
  · rename_i neg n_xs ys_xs; obtain ⟨rfl, rfl⟩ := pair_inj h
    obtain ⟨⟨h1, h2⟩, hc⟩ := hc; subst h2; generalize (unu ys_xs) = xs at *; subst h1
    exact Valid_pure _ xs hc
  · cases h
def cmpTop (xs ys : List Nat) : Nat → Int
  | 0 => 0
  | n + 1 => if xs.getD n 0 < ys.getD n 0 then -1 else if ys.getD n 0 < xs.getD n 0 then 1 else cmpTop xs ys n
def cmpL (xs ys : List Nat) : Int := if xs.length ≠ ys.length then (if xs.length < ys.length then -1 else 1) else cmpTop xs ys xs.length
def lp_cmpLoop (xs ys : List Nat) : LoopO := loopRule2 (α := Nat) (β := Unit) (γ := Unit) [] (fun k => (xs.length = ys.length ∧ k ≤ xs.length) ∧ cmpTop xs ys k = cmpTop xs ys xs.length) (fun k => [(0, .ro xs.length (u32s xs)), (1, .ro ys.length (u32s ys)), (5, .v (.int .i64 ((k : Int) - 1)))]) (fun _ => []) (xs.length) (fun _ => cmpTop xs ys xs.length = 0) (fun _ => (.exit 0, [], [])) (fun _ => True) (fun _ => (.ret, [(4, .v (.int .i64 (cmpTop xs ys xs.length)))], []))
theorem cmpLoop_rule (xs ys : List Nat) (hpre : xs.length ≤ 1000000000000) : LRuleP Try.prog Try.f61.ntmps (loopAt ((Try.f61.body).getD .skip) 6) (lp_cmpLoop xs ys) := by
  refine lrule_of2 (α := Nat) (β := Unit) (γ := Unit) (call := noCalls) (lp := fun _ => none) (N := 10) T_ok mixed noCalls_ok (fun k => k) (by kernel_rfl) (LpAllP.none _) ?_
  intro x hJ
  refine of_eq (B := letI z5 := List.length xs; letI z14 := cmpTop xs ys z5; letI z4 := ([] : List (Option Blk)); letI z0 := (Prod.mk Exit.ret (Prod.mk [(Prod.mk (4 : Nat) (D.v (Value.int IntKind.i64 z14)))] z4)); letI z3 := (((x : Nat) : Int) - (1 : Int)); letI z1 := ((Int.toNat z3) * (1 : Nat)); letI z9 := (Exit.exit (0 : Nat)); letI z10 := ([] : List (Prod Nat D)); letI z2 := (Prod.mk z9 (Prod.mk z10 z4)); letI z6 := (List.getD (u32s xs) z1 (Inhabited.default)); letI z7 := (List.getD (u32s ys) z1 (Inhabited.default)); letI z8 := (List (Option Nat)); letI z19 := List.length ys; letI z11 := (((0 : Int) ≤ z3) ∧ (z3 < ((z19 : Nat) : Int))); letI z12 := ((z1 < (List.length (u32s xs))) ∧ (IsInt IntKind.u32 z6)); letI z13 := ((z1 < (List.length (u32s ys))) ∧ (IsInt IntKind.u32 z7)); letI z15 := (Prod.mk (1 : Nat) (D.ro z19 (u32s ys))); letI z16 := (((0 : Int) ≤ z3) ∧ (z3 < ((z5 : Nat) : Int))); letI z17 := (Prod.mk (0 : Nat) (D.ro z5 (u32s xs))); letI z18 := (z14 = (0 : Int)); letI z20 := Bool.true = Bool.true; letI z21 := Exit.ret = Exit.ret; (True ∧ (True ∧ (pcond (Decidable.decide ((0 : Int) ≤ z3)) (True ∧ (True ∧ (z16 ∧ (z12 ∧ (True ∧ (True ∧ (z11 ∧ (z13 ∧ (True ∧ (z20 ∧ (pcond (Decidable.decide ((cellInt z6) < (cellInt z7))) (True ∧ ((∃ (r : Unit), (∃ (kp : z8), (z18 ∧ ((Exit.ret = z9) ∧ (viewAll kp z10 z4 (Prod.fst (Prod.snd ((fun (x_1 : Unit) => z2) r))) (Prod.snd (Prod.snd ((fun (x_1 : Unit) => z2) r)))))))) ∨ (∃ (r : Unit), (∃ (kp : z8), (True ∧ (z21 ∧ (viewAll kp [(Prod.mk (4 : Nat) (D.v (Value.int IntKind.i64 (-(1 : Int)))))] z4 (Prod.fst (Prod.snd ((fun (x_1 : Unit) => z0) r))) (Prod.snd (Prod.snd ((fun (x_1 : Unit) => z0) r)))))))))) (True ∧ (True ∧ (z16 ∧ (z12 ∧ (True ∧ (True ∧ (z11 ∧ (z13 ∧ (True ∧ (z20 ∧ (pcond (Decidable.decide ((cellInt z7) < (cellInt z6))) (True ∧ ((∃ (r : Unit), (∃ (kp : z8), (z18 ∧ ((Exit.ret = z9) ∧ (viewAll kp z10 z4 (Prod.fst (Prod.snd ((fun (x_1 : Unit) => z2) r))) (Prod.snd (Prod.snd ((fun (x_1 : Unit) => z2) r)))))))) ∨ (∃ (r : Unit), (∃ (kp : z8), (True ∧ (z21 ∧ (viewAll kp [(Prod.mk (4 : Nat) (D.v (Value.int IntKind.i64 (1 : Int))))] z4 (Prod.fst (Prod.snd ((fun (x_1 : Unit) => z0) r))) (Prod.snd (Prod.snd ((fun (x_1 : Unit) => z0) r)))))))))) (True ∧ (True ∧ (True ∧ (∃ (y : Nat), (∃ (kp : z8), ((y < x) ∧ ((((z5 = z19) ∧ (y ≤ z5)) ∧ ((cmpTop xs ys y) = z14)) ∧ (viewAll kp [z17, z15, (Prod.mk (5 : Nat) (D.v (Value.int IntKind.i64 (IntKind.wrap IntKind.i64 (z3 - (1 : Int))))))] z4 [z17, z15, (Prod.mk (5 : Nat) (D.v (Value.int IntKind.i64 (((y : Nat) : Int) - (1 : Int)))))] z4)))))))))))))))))))))))))))))) ((∃ (r : Unit), (∃ (kp : z8), (z18 ∧ ((z9 = z9) ∧ (viewAll kp z10 z4 (Prod.fst (Prod.snd ((fun (x_1 : Unit) => z2) r))) (Prod.snd (Prod.snd ((fun (x_1 : Unit) => z2) r)))))))) ∨ (∃ (r : Unit), (∃ (kp : z8), (True ∧ ((z9 = Exit.ret) ∧ (viewAll kp z10 z4 (Prod.fst (Prod.snd ((fun (x_1 : Unit) => z0) r))) (Prod.snd (Prod.snd ((fun (x_1 : Unit) => z0) r))))))))))))) (by kernel_rfl) ?_
  obtain ⟨⟨hl, hx⟩, ht⟩ := hJ
  have hb := hpre
  simp only [true_and, and_true, and_self, IsInt_lit, IsBool_lit, IsStr_lit, Bool.not_eq_true', Bool.not_eq_false', Bool.not_true, Bool.not_false, Int.reduceLE, Int.reduceLT, Int.reduceNeg, Nat.le_refl, Int.le_refl, Nat.reduceLT, Nat.reduceLeDiff, Nat.reduceEqDiff, D.v.injEq, D.tup.injEq, D.agg.injEq, D.ro.injEq, List.cons.injEq, Value.int.injEq, Value.bool.injEq, pcond_true, pcond_false, NamelessL, Nameless, Nat.reduceMul, Nat.reduceAdd, Nat.zero_add, Int.toNat_natCast]
  refine pcond_intro (fun h => ?_) (fun h => .inl ⟨(), [], ?_, ?_⟩)
  · simp only [decide_eq_true_eq] at h
    obtain ⟨j, rfl⟩ : ∃ j, x = j + 1 := ⟨x - 1, by omega⟩
    have e : ((j + 1 : Nat) : Int) - 1 = (j : Int) := by omega
    have w : IntKind.i64.wrap ((j : Int) - 1) = (j : Int) - 1 := wrap_i64_of (by omega) (by omega)
    simp only [e, w, Int.toNat_natCast, Nat.mul_one, u32s_cell, u32s_length, u32s_isInt _ _ (show j < xs.length by omega), u32s_isInt _ _ (show j < ys.length by omega), and_true, Int.ofNat_lt]
    simp only [tn, cmpTop] at ht
    refine ⟨⟨by omega, by omega⟩, by omega, ⟨by omega, by omega⟩, by omega, pcond_intro (fun h1 => .inr ⟨(), [], ?_⟩) (fun h1 => ⟨⟨by omega, by omega⟩, by omega, ⟨by omega, by omega⟩, by omega, pcond_intro (fun h2 => .inr ⟨(), [], ?_⟩) (fun h2 => ⟨j, [], by omega, ⟨⟨hl, by omega⟩, ?_⟩, ?_⟩)⟩)⟩
    all_goals simp only [decide_eq_true_eq, decide_eq_false_iff_not] at *
    · rw [if_pos h1] at ht
      refine of_eq (B := letI z0 := ([] : List (Option Blk)); ((Bool.true = Bool.true) ∧ ((z0 = z0) ∧ ((True ∧ ((D.v (Value.int IntKind.i64 (-(1 : Int)))) = (D.v (Value.int IntKind.i64 (cmpTop xs ys (List.length xs)))))) ∧ True)))) (by kernel_rfl) ?_
      simp [ht]
    · rw [if_neg h1, if_pos h2] at ht
      refine of_eq (B := letI z0 := ([] : List (Option Blk)); ((Bool.true = Bool.true) ∧ ((z0 = z0) ∧ ((True ∧ ((D.v (Value.int IntKind.i64 (1 : Int))) = (D.v (Value.int IntKind.i64 (cmpTop xs ys (List.length xs)))))) ∧ True)))) (by kernel_rfl) ?_
      simp [ht]
    · rw [if_neg h1, if_neg h2] at ht
      exact ht
    · refine of_eq (B := letI z0 := (D.v (Value.int IntKind.i64 (((j : Nat) : Int) - (1 : Int)))); letI z1 := (D.ro (List.length xs) (u32s xs)); letI z2 := (D.ro (List.length ys) (u32s ys)); letI z3 := ([] : List (Option Blk)); ((Bool.true = Bool.true) ∧ ((z3 = z3) ∧ ((True ∧ (z1 = z1)) ∧ ((True ∧ (z2 = z2)) ∧ ((True ∧ (z0 = z0)) ∧ True)))))) (by kernel_rfl) ?_
      simp
  · simp only [decide_eq_false_iff_not] at h
    have : x = 0 := by omega
    subst this
    rw [← ht]; rfl
  · refine of_eq (B := letI z0 := ([] : List (Option Blk)); ((Bool.true = Bool.true) ∧ ((z0 = z0) ∧ True))) (by kernel_rfl) ?_
    simp
theorem cmpr_pure (xs ys : List Nat) (hpre : xs.length ≤ 1000000000000) : PureJ Try.prog 61 [.ro xs.length (u32s xs), .ro ys.length (u32s ys)] (.v (.int .i64 (cmpL xs ys))) := by
  refine pureJ_of_vcp (call := noCalls) (lp := fun k => bif Nat.beq k 6 then some (lp_cmpLoop xs ys) else none) (N := 10) T_ok mixed noCalls_ok Try.func61 rfl (by decide) (by kernel_rfl) (by kernel_rfl) (of_eq (B := LRuleP Try.prog Try.f61.ntmps (loopAt ((Try.f61.body).getD .skip) 6) (lp_cmpLoop xs ys) ∧ True) (by kernel_rfl) ⟨cmpLoop_rule xs ys hpre, trivial⟩) (by first | trivial | (simp only [NamelessL, Nameless, and_self, and_true, true_and]; done) | (simp [NamelessL, Nameless, u32s_nameless, namelessL_ints]; done)) (by first | trivial | (simp only [NamelessL, Nameless, and_self, and_true, true_and]; done) | (simp [NamelessL, Nameless, u32s_nameless, namelessL_ints]; done)) ?_
  refine of_eq (B := letI z0 := List.length xs; letI z1 := (D.v (Value.int IntKind.i64 (cmpL xs ys))); letI z2 := List.length ys; letI z3 := ((z0 : Nat) : Int); letI z4 := cmpTop xs ys z0; letI z5 := ([] : List (Option Blk)); letI z6 := (D.ro z0 (u32s xs)); letI z7 := (D.ro z2 (u32s ys)); (True ∧ (True ∧ (True ∧ (True ∧ (True ∧ (True ∧ (pcond (z3 != ((z2 : Nat) : Int)) (True ∧ (True ∧ (True ∧ (True ∧ (True ∧ (pcond (Decidable.decide (z3 < ((z2 : Nat) : Int))) (True ∧ (True ∧ (True ∧ ((D.v (Value.int IntKind.i64 (-(1 : Int)))) = z1)))) (True ∧ (True ∧ (True ∧ ((D.v (Value.int IntKind.i64 (1 : Int))) = z1)))))))))) (True ∧ (True ∧ (True ∧ (True ∧ ((((z0 = z2) ∧ (z0 ≤ z0)) ∧ (z4 = z4)) ∧ (((Bool.true = Bool.true) ∧ ((z5 = z5) ∧ ((True ∧ (z6 = z6)) ∧ ((True ∧ (z7 = z7)) ∧ ((True ∧ ((D.v (Value.int IntKind.i64 (IntKind.wrap IntKind.i64 (z3 - (1 : Int))))) = (D.v (Value.int IntKind.i64 (z3 - (1 : Int)))))) ∧ True))))) ∧ ((Unit → ((z4 = (0 : Int)) → (True ∧ (True ∧ (True ∧ ((D.v (Value.int IntKind.i64 (0 : Int))) = z1)))))) ∧ (Unit → (True → (True ∧ (True ∧ ((D.v (Value.int IntKind.i64 z4)) = z1)))))))))))))))))))) (by kernel_rfl) ?_
  simp only [true_and, and_true, and_self, IsInt_lit, IsBool_lit, IsStr_lit, Bool.not_eq_true', Bool.not_eq_false', Bool.not_true, Bool.not_false, Int.reduceLE, Int.reduceLT, Int.reduceNeg, Nat.le_refl, Int.le_refl, Nat.reduceLT, Nat.reduceLeDiff, Nat.reduceEqDiff, D.v.injEq, D.tup.injEq, D.agg.injEq, D.ro.injEq, List.cons.injEq, Value.int.injEq, Value.bool.injEq, pcond_true, pcond_false, NamelessL, Nameless, Nat.reduceMul, Nat.reduceAdd, Nat.zero_add, Int.toNat_natCast]
  refine pcond_intro (fun h => ?_) (fun h => ?_)
  · have hne : xs.length ≠ ys.length := by simp at h; omega
    refine pcond_intro (fun h1 => ?_) (fun h1 => ?_)
    · have : xs.length < ys.length := by simpa using h1
      simp [cmpL, hne, this]
    · have : ¬ xs.length < ys.length := by simpa using h1
      simp [cmpL, hne, this]
  · have he : xs.length = ys.length := by simp at h; omega
    refine ⟨he, wrap_i64_of (by omega) (by omega), fun _ h => ?_, fun _ _ => ?_⟩
    · simp [cmpL, he]; rw [← he]; exact h.symm
    · simp [cmpL, he]
def ent_cmpr : Ent := fun ds => match ds with
  | [.ro n_xs ys_xs, .ro n_ys ys_ys] => some (.v (.int .i64 (cmpL (unu ys_xs) (unu ys_ys))), (ys_ys = u32s (unu ys_ys) ∧ n_ys = (unu ys_ys).length) ∧ (ys_xs = u32s (unu ys_xs) ∧ n_xs = (unu ys_xs).length) ∧ (unu ys_xs).length ≤ 1000000000000)
  | _ => none
theorem ent_cmpr_ok : EntOk Try.prog 61 ent_cmpr := by
  intro ds d c h hc; unfold ent_cmpr at h; split at h
  · rename_i n_xs ys_xs n_ys ys_ys; obtain ⟨rfl, rfl⟩ := pair_inj h
    obtain ⟨⟨h1, h2⟩, hc⟩ := hc; subst h2; generalize (unu ys_ys) = ys at *; subst h1
    obtain ⟨⟨h1, h2⟩, hc⟩ := hc; subst h2; generalize (unu ys_xs) = xs at *; subst h1
    exact cmpr_pure xs ys hc
  · cases h
def cmpI (xn : Bool) (xs : List Nat) (yn : Bool) (ys : List Nat) : Int :=
  if validL xn xs = false then 0 else if validL yn ys = false then 0 else if xn ≠ yn then (if xn then -1 else 1) else if xn then cmpL ys xs else cmpL xs ys
theorem result_pure (neg : Bool) (xs : List Nat) (hpre : xs.length ≤ 400) : PureJ Try.prog 59 [.agg [.v (.bool neg), .ro xs.length (u32s xs)]] (.tup [d_int neg xs, .v (.int .i64 0)]) := by
  refine pureJ_of_vcx (call := noCalls) (lp := fun _ => none) (N := 10) T_ok mixed noCalls_ok Try.func59 rfl (by decide) (by kernel_rfl) (by kernel_rfl) (LpAll.none _) (by first | trivial | (simp only [NamelessL, Nameless, and_self, and_true, true_and]; done) | (simp [NamelessL, Nameless, u32s_nameless, namelessL_ints, d_int]; done)) (by first | trivial | (simp only [NamelessL, Nameless, and_self, and_true, true_and]; done) | (simp [NamelessL, Nameless, u32s_nameless, namelessL_ints, d_int]; done)) ?_
  refine of_eq (B := letI z0 := (D.tup [(D.agg [(D.v (Value.bool neg)), (D.ro (List.length xs) (u32s xs))]), (D.v (Value.int IntKind.i64 (0 : Int)))]); letI z1 := ((2 : Nat) ≤ (2 : Nat)); letI z2 := ((True ∧ (True ∧ True)) ∧ (True ∧ True)); letI z3 := (((2 : Nat) = (2 : Nat)) ∧ z1); (True ∧ (True ∧ (True ∧ (True ∧ (((1 : Nat) < (2 : Nat)) ∧ (True ∧ (True ∧ (pcond (Decidable.decide ((400 : Int) < (((List.length xs) : Nat) : Int))) (True ∧ (z3 ∧ (True ∧ ((z1 ∧ True) ∧ (z2 ∧ ((D.tup [(D.agg [(D.v (Value.bool Bool.false)), (D.v (Value.slice (Option.none) (0 : Nat) (0 : Nat)))]), (D.v (Value.int IntKind.i64 (2 : Int)))]) = z0)))))) (z1 ∧ (z3 ∧ (True ∧ ((z1 ∧ True) ∧ (z2 ∧ (z0 = z0))))))))))))))) (by kernel_rfl) ?_
  simp only [true_and, and_true, and_self, IsInt_lit, IsBool_lit, IsStr_lit, Bool.not_eq_true', Bool.not_eq_false', Bool.not_true, Bool.not_false, Int.reduceLE, Int.reduceLT, Int.reduceNeg, Nat.le_refl, Int.le_refl, Nat.reduceLT, Nat.reduceLeDiff, Nat.reduceEqDiff, D.v.injEq, D.tup.injEq, D.agg.injEq, D.ro.injEq, List.cons.injEq, Value.int.injEq, Value.bool.injEq, pcond_true, pcond_false, NamelessL, Nameless, Nat.reduceMul, Nat.reduceAdd, Nat.zero_add, Int.toNat_natCast]
  refine pcond_intro (fun h => ?_) (fun h => ?_)
  · simp only [decide_eq_true_eq] at h; omega
  · simp
def ent_result : Ent := fun ds => match ds with
  | [.agg [.v (.bool neg), .ro n_xs ys_xs]] => some (.tup [d_int neg (unu ys_xs), .v (.int .i64 0)], (ys_xs = u32s (unu ys_xs) ∧ n_xs = (unu ys_xs).length) ∧ (unu ys_xs).length ≤ 400)
  | _ => none
theorem ent_result_ok : EntOk Try.prog 59 ent_result := by
  intro ds d c h hc; unfold ent_result at h; split at h
  · rename_i neg n_xs ys_xs; obtain ⟨rfl, rfl⟩ := pair_inj h
    obtain ⟨⟨h1, h2⟩, hc⟩ := hc; subst h2; generalize (unu ys_xs) = xs at *; subst h1
    exact result_pure _ xs hc
  · cases h
end Go.Proofs.Ythnhfkpihbjddaa
end
section
namespace Go.Proofs.Ythnhfkpihbjddaa
open Go.VD
set_option linter.unusedVariables false
set_option linter.unusedSimpArgs false
set_option maxRecDepth 100000
theorem u32s_put (o : List Nat) (j x : Nat) : (u32s o).set j (.v (.int .u32 (x : Int))) = u32s (o.set j x) := by
  simp [u32s, List.map_set]
theorem nv_put : ∀ (o : List Nat) (j d : Nat), j < o.length → nv (o.set j d) + o.getD j 0 * 4294967296 ^ j = nv o + d * 4294967296 ^ j
  | [], j, d, h => by simp at h
  | x :: o, 0, d, h => by simp [nv]; omega
  | x :: o, j + 1, d, h => by
    have := nv_put o j d (by simpa using h)
    simp only [List.set_cons_succ, nv, List.getD_cons_succ, Nat.pow_succ]
    generalize 4294967296 ^ j = P at *
    generalize o.getD j 0 = y at *
    have e1 : y * (P * 4294967296) = 4294967296 * (y * P) := by grind
    have e2 : d * (P * 4294967296) = 4294967296 * (d * P) := by grind
    omega
theorem nv_take_succ : ∀ (ys : List Nat) (k : Nat), k < ys.length → nv (ys.take (k + 1)) = nv (ys.take k) + ys.getD k 0 * 4294967296 ^ k
  | [], k, h => by simp at h
  | y :: ys, 0, h => by simp [nv]
  | y :: ys, k + 1, h => by
    have := nv_take_succ ys k (by simpa using h)
    rw [List.take_succ_cons, List.take_succ_cons, nv, nv, this, List.getD_cons_succ, Nat.pow_succ]
    grind
theorem Dig.put {o : List Nat} (h : Dig o) (j : Nat) {d : Nat} (hd : d < 4294967296) : Dig (o.set j d) := fun x hx => by
  rcases List.mem_or_eq_of_mem_set hx with h1 | h1
  · exact h x h1
  · exact h1 ▸ hd
theorem mul32 {a b c d : Nat} (ha : a < 4294967296) (hb : b < 4294967296) (hc : c < 4294967296) (hd : d < 4294967296) : a * b + c + d < 18446744073709551616 := by
  have : a * b ≤ 4294967295 * 4294967295 := Nat.mul_le_mul (by omega) (by omega)
  omega
theorem tstep {a b c d : Nat} (ha : a < 4294967296) (hb : b < 4294967296) (hc : c < 4294967296) (hd : d < 4294967296) :
    IntKind.u64.wrap (IntKind.u64.wrap (IntKind.u64.wrap (IntKind.u64.wrap (a : Int) * IntKind.u64.wrap (b : Int)) + IntKind.u64.wrap (c : Int)) + (d : Int)) = ((a * b + c + d : Nat) : Int) := by
  have h := mul32 ha hb hc hd
  have h2 : (a : Int) * (b : Int) = ((a * b : Nat) : Int) := by simp
  simp only [wrap_u64]
  rw [show (a : Int) % 18446744073709551616 = a by omega, show (b : Int) % 18446744073709551616 = b by omega, show (c : Int) % 18446744073709551616 = c by omega, h2]
  generalize a * b = q at *
  omega
def d_out (n : Nat) : D := .sl 0 0 n (.toEnd 1)
def d_blk (o : List Nat) : Heap := [some ⟨41, u32s o, true⟩]
def lp_timesIn (xs ys : List Nat) (p : Nat × List Nat) : LoopO := loopRule (α := Nat × List Nat × Nat) (β := List Nat × Nat) [some 0] (fun s => (p.1 < xs.length ∧ s.1 ≤ ys.length ∧ s.2.1.length = xs.length + ys.length ∧ Dig s.2.1 ∧ s.2.2 < 4294967296) ∧ nv s.2.1 + s.2.2 * 4294967296 ^ (p.1 + s.1) = nv p.2 + xs.getD p.1 0 * 4294967296 ^ p.1 * nv (ys.take s.1) ∧ nv (s.2.1.drop (p.1 + ys.length)) = 0) (fun s => [(0, .ro xs.length (u32s xs)), (1, .ro ys.length (u32s ys)), (5, d_out (xs.length + ys.length)), (6, .v (.int .i64 (p.1 : Int))), (7, .v (.int .u64 (s.2.2 : Int))), (8, .v (.int .i64 (s.1 : Int)))]) (fun s => d_blk s.2.1) ((0, p.2, 0)) (fun r => r.1.length = xs.length + ys.length ∧ Dig r.1 ∧ r.2 < 4294967296 ∧ nv r.1 + r.2 * 4294967296 ^ (p.1 + ys.length) = nv p.2 + xs.getD p.1 0 * 4294967296 ^ p.1 * nv ys ∧ nv (r.1.drop (p.1 + ys.length)) = 0) (fun r => (.exit 2, [(0, .ro xs.length (u32s xs)), (1, .ro ys.length (u32s ys)), (5, d_out (xs.length + ys.length)), (6, .v (.int .i64 (p.1 : Int))), (7, .v (.int .u64 (r.2 : Int)))], d_blk r.1))
theorem timesIn_rule (xs ys : List Nat) (p : Nat × List Nat) (hpre : xs.length ≤ 400000 ∧ ys.length ≤ 400000 ∧ Dig xs ∧ Dig ys) : LRuleP Try.prog Try.f69.ntmps (loopAt (loopAt ((Try.f69.body).getD .skip) 3) 7) (lp_timesIn xs ys p) := by
  refine lrule_of (α := Nat × List Nat × Nat) (β := List Nat × Nat) (call := noCalls) (lp := fun _ => none) (N := 10) T_ok mixed noCalls_ok (fun s => ys.length - s.1) (by kernel_rfl) (LpAllP.none _) ?_
  intro x hJ
  refine of_eq (B := letI z8 := (((Prod.fst p) : Nat) : Int); letI z5 := (((Prod.fst x) : Nat) : Int); letI z0 := (IntKind.wrap IntKind.i64 (z8 + z5)); letI z24 := ((Int.toNat z8) * (1 : Nat)); letI z13 := (List.getD (u32s xs) z24 (Inhabited.default)); letI z25 := ((Int.toNat z5) * (1 : Nat)); letI z14 := (List.getD (u32s ys) z25 (Inhabited.default)); letI z10 := (u32s (Prod.fst (Prod.snd x))); letI z7 := ((0 : Nat) + ((Int.toNat z0) * (1 : Nat))); letI z22 := (List.getD z10 z7 (Inhabited.default)); letI z21 := (((Prod.snd (Prod.snd x)) : Nat) : Int); letI z1 := (IntKind.wrap IntKind.u64 ((IntKind.wrap IntKind.u64 ((IntKind.wrap IntKind.u64 ((IntKind.wrap IntKind.u64 (cellInt z13)) * (IntKind.wrap IntKind.u64 (cellInt z14)))) + (IntKind.wrap IntKind.u64 (cellInt z22)))) + z21)); letI z2 := (Prod.mk (6 : Nat) (D.v (Value.int IntKind.i64 z8))); letI z3 := List.length ys; letI z20 := List.length xs; letI z4 := (Prod.mk (0 : Nat) (D.ro z20 (u32s xs))); letI z6 := (z20 + z3); letI z9 := (Prod.mk (1 : Nat) (D.ro z3 (u32s ys))); letI z11 := (4294967296 : Nat); letI z12 := (Prod.mk (5 : Nat) (D.sl (0 : Nat) (0 : Nat) z6 (Cap.toEnd (1 : Nat)))); letI z15 := ((List.getD xs (Prod.fst p) (0 : Nat)) * (z11 ^ (Prod.fst p))); letI z16 := (Prod (List Nat) Nat); letI z17 := (Prod.mk (5 : Nat) (d_out z6)); letI z18 := (Exit.exit (2 : Nat)); letI z19 := (((0 : Int) ≤ z0) ∧ (z0 < ((z6 : Nat) : Int))); letI z23 := ((Prod.fst p) + z3); letI z26 := (List (Option Nat)); (True ∧ (True ∧ (True ∧ (True ∧ (pcond (Decidable.decide (z5 < ((z3 : Nat) : Int))) (True ∧ (True ∧ ((((0 : Int) ≤ z8) ∧ (z8 < ((z20 : Nat) : Int))) ∧ (((z24 < (List.length (u32s xs))) ∧ (IsInt IntKind.u32 z13)) ∧ (True ∧ (True ∧ (True ∧ ((((0 : Int) ≤ z5) ∧ (z5 < ((z3 : Nat) : Int))) ∧ (((z25 < (List.length (u32s ys))) ∧ (IsInt IntKind.u32 z14)) ∧ (True ∧ (True ∧ (True ∧ (True ∧ (True ∧ (True ∧ (z19 ∧ (((z7 < (List.length z10)) ∧ (IsInt IntKind.u32 z22)) ∧ (True ∧ (True ∧ (True ∧ (True ∧ (True ∧ ((Bool.true = Bool.true) ∧ (True ∧ (True ∧ (True ∧ (True ∧ (True ∧ (True ∧ (z19 ∧ ((((1 : Nat) = (1 : Nat)) ∧ ((z7 + (1 : Nat)) ≤ (List.length z10))) ∧ (True ∧ (((0 : Int) ≤ (32 : Int)) ∧ (True ∧ (True ∧ (True ∧ (True ∧ (∃ (y : (Prod Nat z16)), (∃ (kp : z26), (((z3 - (Prod.fst y)) < (z3 - (Prod.fst x))) ∧ (((((Prod.fst p) < z20) ∧ (((Prod.fst y) ≤ z3) ∧ (((List.length (Prod.fst (Prod.snd y))) = z6) ∧ ((Dig (Prod.fst (Prod.snd y))) ∧ ((Prod.snd (Prod.snd y)) < z11))))) ∧ ((((nv (Prod.fst (Prod.snd y))) + ((Prod.snd (Prod.snd y)) * (z11 ^ ((Prod.fst p) + (Prod.fst y))))) = ((nv (Prod.snd p)) + (z15 * (nv (List.take (Prod.fst y) ys))))) ∧ ((nv (List.drop z23 (Prod.fst (Prod.snd y)))) = (0 : Nat)))) ∧ (viewAll kp [z4, z9, z12, z2, (Prod.mk (7 : Nat) (D.v (Value.int IntKind.u64 (Int.fdiv z1 (4294967296 : Int))))), (Prod.mk (8 : Nat) (D.v (Value.int IntKind.i64 (IntKind.wrap IntKind.i64 (z5 + (1 : Int))))))] [(Option.some (Blk.mk (41 : Nat) (List.set z10 z7 (D.v (Value.int IntKind.u32 (IntKind.wrap IntKind.u32 z1)))) Bool.true))] [z4, z9, z17, z2, (Prod.mk (7 : Nat) (D.v (Value.int IntKind.u64 (((Prod.snd (Prod.snd y)) : Nat) : Int)))), (Prod.mk (8 : Nat) (D.v (Value.int IntKind.i64 (((Prod.fst y) : Nat) : Int))))] (d_blk (Prod.fst (Prod.snd y))))))))))))))))))))))))))))))))))))))))))))) (∃ (r : z16), (∃ (kp : z26), ((((List.length (Prod.fst r)) = z6) ∧ ((Dig (Prod.fst r)) ∧ (((Prod.snd r) < z11) ∧ ((((nv (Prod.fst r)) + ((Prod.snd r) * (z11 ^ z23))) = ((nv (Prod.snd p)) + (z15 * (nv ys)))) ∧ ((nv (List.drop z23 (Prod.fst r))) = (0 : Nat)))))) ∧ ((z18 = z18) ∧ (viewAll kp [z4, z9, z12, z2, (Prod.mk (7 : Nat) (D.v (Value.int IntKind.u64 z21)))] [(Option.some (Blk.mk (41 : Nat) z10 Bool.true))] (Prod.fst (Prod.snd ((fun (r_1 : z16) => (Prod.mk z18 (Prod.mk [z4, z9, z17, z2, (Prod.mk (7 : Nat) (D.v (Value.int IntKind.u64 (((Prod.snd r_1) : Nat) : Int))))] (d_blk (Prod.fst r_1))))) r))) (Prod.snd (Prod.snd ((fun (r_1 : z16) => (Prod.mk z18 (Prod.mk [z4, z9, z17, z2, (Prod.mk (7 : Nat) (D.v (Value.int IntKind.u64 (((Prod.snd r_1) : Nat) : Int))))] (d_blk (Prod.fst r_1))))) r)))))))))))))) (by kernel_rfl) ?_
  obtain ⟨hbx, hby, hdx, hdy⟩ := hpre
  obtain ⟨i, o0⟩ := p
  obtain ⟨k, o, c⟩ := x
  obtain ⟨⟨hi, hk, hl, ho, hc⟩, he, hz⟩ := hJ
  simp only at hi hk hl ho hc he hz
  have hw : IntKind.i64.wrap ((i : Int) + (k : Int)) = ((i + k : Nat) : Int) := by rw [wrap_i64_of (by omega) (by omega)]; omega
  simp only [true_and, and_true, and_self, IsInt_lit, IsBool_lit, IsStr_lit, Bool.not_eq_true', Bool.not_eq_false', Bool.not_true, Bool.not_false, Int.reduceLE, Int.reduceLT, Int.reduceNeg, Nat.le_refl, Int.le_refl, Nat.reduceLT, Nat.reduceLeDiff, Nat.reduceEqDiff, D.v.injEq, D.tup.injEq, D.agg.injEq, D.ro.injEq, List.cons.injEq, Value.int.injEq, Value.bool.injEq, pcond_true, pcond_false, NamelessL, Nameless, Nat.reduceMul, Nat.reduceAdd, Nat.zero_add, Int.toNat_natCast, hw, Nat.mul_one, u32s_length, hl]
  refine pcond_intro (fun h => ?_) (fun h => ?_)
  · simp only [decide_eq_true_eq] at h
    simp only [u32s_cell, u32s_isInt _ _ (show i < xs.length by omega), u32s_isInt _ _ (show k < ys.length by omega), u32s_isInt _ _ (show i + k < o.length by omega)]
    simp only [tstep (hdx.get i) (hdy.get k) (ho.get (i + k)) hc]
    have hlt := mul32 (hdx.get i) (hdy.get k) (ho.get (i + k)) hc
    generalize hT : xs.getD i 0 * ys.getD k 0 + o.getD (i + k) 0 + c = T at *
    have hw1 : IntKind.u32.wrap (T : Int) = ((T % 4294967296 : Nat) : Int) := by rw [wrap_u32]; omega
    have hw2 : (T : Int).fdiv 4294967296 = ((T / 4294967296 : Nat) : Int) := by rw [Int.fdiv_eq_ediv_of_nonneg _ (by omega)]; omega
    have hw3 : IntKind.i64.wrap ((k : Int) + 1) = ((k + 1 : Nat) : Int) := by rw [wrap_i64_of (by omega) (by omega)]; omega
    simp only [hw1, hw2, hw3, u32s_put]
    have hp := nv_put o (i + k) (T % 4294967296) (by omega)
    have hq := nv_take_succ ys k (by omega)
    refine ⟨⟨by omega, by omega⟩, ⟨by omega, trivial⟩, ⟨by omega, by omega⟩, ⟨by omega, trivial⟩, ⟨by omega, by omega⟩, ⟨by omega, trivial⟩, ⟨by omega, by omega⟩, by omega, (k + 1, o.set (i + k) (T % 4294967296), T / 4294967296), [some 0], by simp only; omega, ⟨⟨hi, by simp only; omega, by simpa using hl, ho.put _ (Nat.mod_lt _ (by decide)), by simp only; omega⟩, ?_, ?_⟩, ?_⟩
    · simp only
      rw [hq, Nat.mul_add, ← Nat.add_assoc (nv o0), ← he]
      have hm := Nat.div_add_mod T 4294967296
      have e1 : 4294967296 ^ (i + (k + 1)) = 4294967296 ^ (i + k) * 4294967296 := by rw [← Nat.add_assoc, Nat.pow_succ]
      have e2 : xs.getD i 0 * 4294967296 ^ i * (ys.getD k 0 * 4294967296 ^ k) = xs.getD i 0 * ys.getD k 0 * 4294967296 ^ (i + k) := by rw [Nat.pow_add]; grind
      rw [e1, e2]
      generalize 4294967296 ^ (i + k) = P at *
      generalize nv (o.set (i + k) (T % 4294967296)) = V at *
      generalize xs.getD i 0 * ys.getD k 0 = q at *
      generalize o.getD (i + k) 0 = y at *
      generalize T / 4294967296 = t1 at *
      generalize T % 4294967296 = t0 at *
      grind
    · simp only
      rw [List.drop_set_of_lt (by omega)]
      exact hz
    · refine of_eq (B := letI z0 := (u32s (List.set o (i + k) (T % (4294967296 : Nat)))); letI z1 := (D.sl (0 : Nat) (0 : Nat) ((List.length xs) + (List.length ys)) (Cap.toEnd (1 : Nat))); letI z2 := (D.v (Value.int IntKind.u64 (((T / (4294967296 : Nat)) : Nat) : Int))); letI z3 := (D.v (Value.int IntKind.i64 (((k + (1 : Nat)) : Nat) : Int))); letI z4 := (D.v (Value.int IntKind.i64 ((i : Nat) : Int))); letI z5 := (Option.some (Blk.mk (41 : Nat) z0 Bool.true)); letI z6 := (D.ro (List.length xs) (u32s xs)); letI z7 := (D.ro (List.length ys) (u32s ys)); letI z8 := ([] : List (Option Blk)); ((Bool.true = Bool.true) ∧ ((((z5 = z5) ∧ (NamelessL z0)) ∧ (z8 = z8)) ∧ ((True ∧ (z6 = z6)) ∧ ((True ∧ (z7 = z7)) ∧ ((True ∧ (z1 = z1)) ∧ ((True ∧ (z4 = z4)) ∧ ((True ∧ (z2 = z2)) ∧ ((True ∧ (z3 = z3)) ∧ True))))))))) (by kernel_rfl) ?_
      simp [u32s_nameless]
  · simp only [decide_eq_false_iff_not] at h
    have hk2 : k = ys.length := by omega
    subst hk2
    refine ⟨(o, c), [some 0], ⟨hl, ho, hc, by simpa using he, hz⟩, ?_⟩
    refine of_eq (B := letI z0 := (D.sl (0 : Nat) (0 : Nat) ((List.length xs) + (List.length ys)) (Cap.toEnd (1 : Nat))); letI z1 := (Option.some (Blk.mk (41 : Nat) (u32s o) Bool.true)); letI z2 := (D.v (Value.int IntKind.i64 ((i : Nat) : Int))); letI z3 := (D.v (Value.int IntKind.u64 ((c : Nat) : Int))); letI z4 := (D.ro (List.length xs) (u32s xs)); letI z5 := (D.ro (List.length ys) (u32s ys)); letI z6 := ([] : List (Option Blk)); ((Bool.true = Bool.true) ∧ ((((z1 = z1) ∧ (NamelessL (u32s o))) ∧ (z6 = z6)) ∧ ((True ∧ (z4 = z4)) ∧ ((True ∧ (z5 = z5)) ∧ ((True ∧ (z0 = z0)) ∧ ((True ∧ (z2 = z2)) ∧ ((True ∧ (z3 = z3)) ∧ True)))))))) (by kernel_rfl) ?_
    simp [u32s_nameless]
def lp_timesOut (xs ys : List Nat) : LoopO := loopRule (α := Nat × List Nat) (β := List Nat) [some 0] (fun s => (s.1 ≤ xs.length ∧ s.2.length = xs.length + ys.length ∧ Dig s.2) ∧ nv s.2 = nv (xs.take s.1) * nv ys ∧ nv (s.2.drop (s.1 + ys.length)) = 0) (fun s => [(0, .ro xs.length (u32s xs)), (1, .ro ys.length (u32s ys)), (5, d_out (xs.length + ys.length)), (6, .v (.int .i64 (s.1 : Int)))]) (fun s => d_blk s.2) ((0, List.replicate (xs.length + ys.length) 0)) (fun r => r.length = xs.length + ys.length ∧ Dig r ∧ nv r = nv xs * nv ys) (fun r => (.exit 0, [(5, d_out (xs.length + ys.length))], d_blk r))
theorem timesOut_rule (xs ys : List Nat) (hpre : xs.length ≤ 400000 ∧ ys.length ≤ 400000 ∧ Dig xs ∧ Dig ys) : LRuleP Try.prog Try.f69.ntmps (loopAt ((Try.f69.body).getD .skip) 3) (lp_timesOut xs ys) := by
  refine lrule_of (α := Nat × List Nat) (β := List Nat) (call := noCalls) (lp := fun k => bif Nat.beq k 7 then some (exLoop (fun p : Nat × List Nat => lp_timesIn xs ys p)) else none) (N := 10) T_ok mixed noCalls_ok (fun s => xs.length - s.1) (by kernel_rfl) (of_eq (B := LRuleP Try.prog Try.f69.ntmps (loopAt (loopAt ((Try.f69.body).getD .skip) 3) 7) (exLoop (fun p : Nat × List Nat => lp_timesIn xs ys p)) ∧ True) (by kernel_rfl) ⟨exLoop_rule (fun p : Nat × List Nat => timesIn_rule xs ys p hpre), trivial⟩) ?_
  intro x hJ
  refine of_eq (B := letI z3 := List.length xs; letI z1 := List.length ys; letI z0 := (z3 + z1); letI z2 := (D.sl (0 : Nat) (0 : Nat) z0 (Cap.toEnd (1 : Nat))); letI z4 := (4294967296 : Nat); letI z18 := (u32s (Prod.snd x)); letI z5 := (Option.some (Blk.mk (41 : Nat) z18 Bool.true)); letI z6 := (Prod.mk (5 : Nat) (d_out z0)); letI z7 := (Exit.exit (0 : Nat)); letI z8 := (D.ro z3 (u32s xs)); letI z9 := (D.ro z1 (u32s ys)); letI z10 := ((z1 : Nat) : Int); letI z11 := (((Prod.fst x) : Nat) : Int); letI z12 := (((0 : Nat) : Nat) : Int); letI z13 := ([] : List (Option Blk)); letI z14 := (Prod.mk (0 : Nat) z8); letI z15 := (Prod.mk (1 : Nat) z9); letI z16 := (Prod.mk (5 : Nat) z2); letI z17 := (Prod Nat (List Nat)); letI z19 := (List (Option Nat)); (True ∧ (True ∧ (True ∧ (True ∧ (pcond (Decidable.decide (z11 < ((z3 : Nat) : Int))) (True ∧ (True ∧ (∃ (a : z17), (((((Prod.fst a) < z3) ∧ (((0 : Nat) ≤ z1) ∧ (((List.length (Prod.snd a)) = z0) ∧ ((Dig (Prod.snd a)) ∧ ((0 : Nat) < z4))))) ∧ ((((nv (Prod.snd a)) + ((0 : Nat) * (z4 ^ ((Prod.fst a) + (0 : Nat))))) = ((nv (Prod.snd a)) + (((List.getD xs (Prod.fst a) (0 : Nat)) * (z4 ^ (Prod.fst a))) * (nv ([] : List Nat))))) ∧ ((nv (List.drop ((Prod.fst a) + z1) (Prod.snd a))) = (0 : Nat)))) ∧ (((Bool.true = Bool.true) ∧ (((((Option.some (Blk.mk (41 : Nat) (u32s (Prod.snd a)) Bool.true)) = z5) ∧ (NamelessL z18)) ∧ (z13 = z13)) ∧ ((True ∧ (z8 = z8)) ∧ ((True ∧ (z9 = z9)) ∧ ((True ∧ (z2 = z2)) ∧ ((True ∧ ((D.v (Value.int IntKind.i64 z11)) = (D.v (Value.int IntKind.i64 (((Prod.fst a) : Nat) : Int))))) ∧ ((True ∧ ((D.v (Value.int IntKind.u64 (0 : Int))) = (D.v (Value.int IntKind.u64 z12)))) ∧ ((True ∧ ((D.v (Value.int IntKind.i64 (0 : Int))) = (D.v (Value.int IntKind.i64 z12)))) ∧ True)))))))) ∧ (∀ (r : (Prod (List Nat) Nat)), ((((List.length (Prod.fst r)) = z0) ∧ ((Dig (Prod.fst r)) ∧ (((Prod.snd r) < z4) ∧ ((((nv (Prod.fst r)) + ((Prod.snd r) * (z4 ^ ((Prod.fst a) + z1)))) = ((nv (Prod.snd a)) + (((List.getD xs (Prod.fst a) (0 : Nat)) * (z4 ^ (Prod.fst a))) * (nv ys)))) ∧ ((nv (List.drop ((Prod.fst a) + z1) (Prod.fst r))) = (0 : Nat)))))) → (True ∧ (True ∧ (True ∧ (True ∧ (True ∧ (True ∧ (True ∧ ((((0 : Int) ≤ (IntKind.wrap IntKind.i64 ((((Prod.fst a) : Nat) : Int) + z10))) ∧ ((IntKind.wrap IntKind.i64 ((((Prod.fst a) : Nat) : Int) + z10)) < ((z0 : Nat) : Int))) ∧ ((((1 : Nat) = (1 : Nat)) ∧ ((((0 : Nat) + ((Int.toNat (IntKind.wrap IntKind.i64 ((((Prod.fst a) : Nat) : Int) + z10))) * (1 : Nat))) + (1 : Nat)) ≤ (List.length (u32s (Prod.fst r))))) ∧ (True ∧ (True ∧ (True ∧ (∃ (y : z17), (∃ (kp : z19), (((z3 - (Prod.fst y)) < (z3 - (Prod.fst x))) ∧ (((((Prod.fst y) ≤ z3) ∧ (((List.length (Prod.snd y)) = z0) ∧ (Dig (Prod.snd y)))) ∧ (((nv (Prod.snd y)) = ((nv (List.take (Prod.fst y) xs)) * (nv ys))) ∧ ((nv (List.drop ((Prod.fst y) + z1) (Prod.snd y))) = (0 : Nat)))) ∧ (viewAll kp [z14, z15, z16, (Prod.mk (6 : Nat) (D.v (Value.int IntKind.i64 (IntKind.wrap IntKind.i64 ((((Prod.fst a) : Nat) : Int) + (1 : Int))))))] [(Option.some (Blk.mk (41 : Nat) (List.set (u32s (Prod.fst r)) ((0 : Nat) + ((Int.toNat (IntKind.wrap IntKind.i64 ((((Prod.fst a) : Nat) : Int) + z10))) * (1 : Nat))) (D.v (Value.int IntKind.u32 (IntKind.wrap IntKind.u32 (((Prod.snd r) : Nat) : Int))))) Bool.true))] [z14, z15, z6, (Prod.mk (6 : Nat) (D.v (Value.int IntKind.i64 (((Prod.fst y) : Nat) : Int))))] (d_blk (Prod.snd y)))))))))))))))))))))))))) (∃ (r : (List Nat)), (∃ (kp : z19), ((((List.length r) = z0) ∧ ((Dig r) ∧ ((nv r) = ((nv xs) * (nv ys))))) ∧ ((z7 = z7) ∧ (viewAll kp [z16] [z5] (Prod.fst (Prod.snd ((fun (r_1 : (List Nat)) => (Prod.mk z7 (Prod.mk [z6] (d_blk r_1)))) r))) (Prod.snd (Prod.snd ((fun (r_1 : (List Nat)) => (Prod.mk z7 (Prod.mk [z6] (d_blk r_1)))) r)))))))))))))) (by kernel_rfl) ?_
  obtain ⟨hbx, hby, hdx, hdy⟩ := hpre
  obtain ⟨i, o⟩ := x
  obtain ⟨⟨hi, hl, ho⟩, he, hz⟩ := hJ
  simp only at hi hl ho he hz
  have hw : IntKind.i64.wrap ((i : Int) + (ys.length : Int)) = ((i + ys.length : Nat) : Int) := by rw [wrap_i64_of (by omega) (by omega)]; omega
  simp only [true_and, and_true, and_self, IsInt_lit, IsBool_lit, IsStr_lit, Bool.not_eq_true', Bool.not_eq_false', Bool.not_true, Bool.not_false, Int.reduceLE, Int.reduceLT, Int.reduceNeg, Nat.le_refl, Int.le_refl, Nat.reduceLT, Nat.reduceLeDiff, Nat.reduceEqDiff, D.v.injEq, D.tup.injEq, D.agg.injEq, D.ro.injEq, List.cons.injEq, Value.int.injEq, Value.bool.injEq, pcond_true, pcond_false, NamelessL, Nameless, Nat.reduceMul, Nat.reduceAdd, Nat.zero_add, Int.toNat_natCast, hw, Nat.mul_one, u32s_length, hl]
  refine pcond_intro (fun h => ?_) (fun h => ?_)
  · simp only [decide_eq_true_eq] at h
    refine ⟨(i, o), ⟨⟨by simp only; omega, Nat.zero_le _, hl, ho⟩, by simp [nv], hz⟩, ⟨⟨rfl, u32s_nameless _⟩, rfl, rfl⟩, ?_⟩
    rintro ⟨r, c⟩ ⟨hrl, hrd, hc, hre, hrz⟩
    simp only at hrl hrd hc hre hrz
    have hw1 : IntKind.u32.wrap (c : Int) = (c : Int) := wrap_u32_of (by omega) (by omega)
    have hw3 : IntKind.i64.wrap ((i : Int) + 1) = ((i + 1 : Nat) : Int) := by rw [wrap_i64_of (by omega) (by omega)]; omega
    simp only [hw, hw1, hw3, Int.toNat_natCast, u32s_put]
    have hp := nv_put r (i + ys.length) c (by omega)
    have hq := nv_take_succ xs i (by omega)
    rw [nv_drop_succ] at hrz
    have hr0 : r.getD (i + ys.length) 0 = 0 := by omega
    have hr1 : nv (r.drop (i + ys.length + 1)) = 0 := by omega
    refine ⟨⟨by omega, by omega⟩, by omega, (i + 1, r.set (i + ys.length) c), [some 0], by simp only; omega, ⟨⟨by simp only; omega, by simpa using hrl, hrd.put _ hc⟩, ?_, ?_⟩, ?_⟩
    · simp only
      rw [hr0] at hp
      rw [hq, Nat.add_mul, ← he]
      have e2 : xs.getD i 0 * 4294967296 ^ i * nv ys = nv ys * (xs.getD i 0 * 4294967296 ^ i) := Nat.mul_comm _ _
      omega
    · simp only
      rw [List.drop_set_of_lt (by omega), show i + 1 + ys.length = i + ys.length + 1 by omega]
      exact hr1
    · refine of_eq (B := letI z3 := List.length ys; letI z5 := (u32s (List.set r (i + z3) c)); letI z0 := (Option.some (Blk.mk (41 : Nat) z5 Bool.true)); letI z1 := (D.sl (0 : Nat) (0 : Nat) ((List.length xs) + z3) (Cap.toEnd (1 : Nat))); letI z2 := (D.v (Value.int IntKind.i64 (((i + (1 : Nat)) : Nat) : Int))); letI z4 := (D.ro (List.length xs) (u32s xs)); letI z6 := ([] : List (Option Blk)); letI z7 := (D.ro z3 (u32s ys)); ((Bool.true = Bool.true) ∧ ((((z0 = z0) ∧ (NamelessL z5)) ∧ (z6 = z6)) ∧ ((True ∧ (z4 = z4)) ∧ ((True ∧ (z7 = z7)) ∧ ((True ∧ (z1 = z1)) ∧ ((True ∧ (z2 = z2)) ∧ True))))))) (by kernel_rfl) ?_
      simp [u32s_nameless]
  · simp only [decide_eq_false_iff_not] at h
    have hk2 : i = xs.length := by omega
    subst hk2
    refine ⟨o, [some 0], ⟨hl, ho, by simpa using he⟩, ?_⟩
    refine of_eq (B := letI z0 := (D.sl (0 : Nat) (0 : Nat) ((List.length xs) + (List.length ys)) (Cap.toEnd (1 : Nat))); letI z1 := (Option.some (Blk.mk (41 : Nat) (u32s o) Bool.true)); letI z2 := ([] : List (Option Blk)); ((Bool.true = Bool.true) ∧ ((((z1 = z1) ∧ (NamelessL (u32s o))) ∧ (z2 = z2)) ∧ ((True ∧ (z0 = z0)) ∧ True)))) (by kernel_rfl) ?_
    simp [u32s_nameless]
theorem times_pure (xs ys : List Nat) (hpre : xs.length ≤ 400000 ∧ ys.length ≤ 400000 ∧ Dig xs ∧ Dig ys) : PureJ Try.prog 69 [.ro xs.length (u32s xs), .ro ys.length (u32s ys)] (.ro (dg (nv xs * nv ys)).length (u32s (dg (nv xs * nv ys)))) := by
  refine pureJ_of_vcp (call := (addPure 56 ent_trim noCalls)) (lp := fun k => bif Nat.beq k 3 then some (lp_timesOut xs ys) else none) (N := 10) T_ok mixed (addPure_ok ent_trim_ok noCalls_ok) Try.func69 rfl (by decide) (by kernel_rfl) (by kernel_rfl) (of_eq (B := LRuleP Try.prog Try.f69.ntmps (loopAt ((Try.f69.body).getD .skip) 3) (lp_timesOut xs ys) ∧ True ∧ True) (by kernel_rfl) ⟨timesOut_rule xs ys hpre, ⟨trivial, trivial⟩⟩) (by first | trivial | (simp only [NamelessL, Nameless, and_self, and_true, true_and]; done) | (simp [NamelessL, Nameless, u32s_nameless, namelessL_ints]; done)) (by first | trivial | (simp only [NamelessL, Nameless, and_self, and_true, true_and]; done) | (simp [NamelessL, Nameless, u32s_nameless, namelessL_ints]; done)) ?_
  refine of_eq (B := letI z5 := List.length xs; letI z6 := List.length ys; letI z0 := (IntKind.wrap IntKind.i64 (((z5 : Nat) : Int) + ((z6 : Nat) : Int))); letI z1 := (z5 + z6); letI z2 := (List.replicate z1 (0 : Nat)); letI z3 := (z1 * (1 : Nat)); letI z4 := (List.replicate (Int.toNat z0) (D.v (Value.int IntKind.u32 (0 : Int)))); letI z7 := ((nv xs) * (nv ys)); letI z8 := ([] : List (Option Blk)); letI z9 := (Cap.toEnd (1 : Nat)); letI z10 := (D.ro z5 (u32s xs)); letI z11 := (D.ro z6 (u32s ys)); (True ∧ (True ∧ (True ∧ (True ∧ (True ∧ (True ∧ ((((0 : Int) ≤ z0) ∧ ((z0 ≤ z0) ∧ ((((4 : Int) * z0) ≤ (281474976710656 : Int)) ∧ (z0 ≤ (9223372036854775807 : Int))))) ∧ (True ∧ (True ∧ (((((0 : Nat) ≤ z5) ∧ (((List.length z2) = z1) ∧ (Dig z2))) ∧ (((nv z2) = ((nv ([] : List Nat)) * (nv ys))) ∧ ((nv (List.drop ((0 : Nat) + z6) z2)) = (0 : Nat)))) ∧ (((Bool.true = Bool.true) ∧ (((((Option.some (Blk.mk (41 : Nat) (u32s z2) Bool.true)) = (Option.some (Blk.mk (41 : Nat) z4 Bool.true))) ∧ (NamelessL z4)) ∧ (z8 = z8)) ∧ ((True ∧ (z10 = z10)) ∧ ((True ∧ (z11 = z11)) ∧ ((True ∧ ((D.sl (0 : Nat) (0 : Nat) (Int.toNat z0) z9) = (D.sl (0 : Nat) (0 : Nat) z1 z9))) ∧ ((True ∧ ((D.v (Value.int IntKind.i64 (0 : Int))) = (D.v (Value.int IntKind.i64 (((0 : Nat) : Nat) : Int))))) ∧ True)))))) ∧ (∀ (r : (List Nat)), ((((List.length r) = z1) ∧ ((Dig r) ∧ ((nv r) = z7))) → (True ∧ (((((NamelessL (u32s r)) ∧ (((0 : Nat) < (1 : Nat)) ∧ (((0 : Nat) + z3) ≤ (List.length (u32s r))))) ∧ True) ∧ ((((List.take z3 (List.drop (0 : Nat) (u32s r))) = (u32s (unu (List.take z3 (List.drop (0 : Nat) (u32s r)))))) ∧ (z1 = (List.length (unu (List.take z3 (List.drop (0 : Nat) (u32s r))))))) ∧ ((List.length (unu (List.take z3 (List.drop (0 : Nat) (u32s r))))) ≤ (1000000 : Nat)))) ∧ (True ∧ (True ∧ (True ∧ ((D.ro (List.length (trimL (unu (List.take z3 (List.drop (0 : Nat) (u32s r)))))) (u32s (trimL (unu (List.take z3 (List.drop (0 : Nat) (u32s r))))))) = (D.ro (List.length (dg z7)) (u32s (dg z7))))))))))))))))))))))) (by kernel_rfl) ?_
  simp only [true_and, and_true, and_self, IsInt_lit, IsBool_lit, IsStr_lit, Bool.not_eq_true', Bool.not_eq_false', Bool.not_true, Bool.not_false, Int.reduceLE, Int.reduceLT, Int.reduceNeg, Nat.le_refl, Int.le_refl, Nat.reduceLT, Nat.reduceLeDiff, Nat.reduceEqDiff, D.v.injEq, D.tup.injEq, D.agg.injEq, D.ro.injEq, List.cons.injEq, Value.int.injEq, Value.bool.injEq, pcond_true, pcond_false, NamelessL, Nameless, Nat.reduceMul, Nat.reduceAdd, Nat.zero_add, Int.toNat_natCast, unu_u32s]
  obtain ⟨hx, hy, hdx, hdy⟩ := hpre
  have hw : IntKind.i64.wrap ((xs.length : Int) + (ys.length : Int)) = ((xs.length + ys.length : Nat) : Int) := by rw [wrap_i64_of (by omega) (by omega)]; omega
  have hr : List.replicate (xs.length + ys.length) (D.v (Value.int IntKind.u32 0)) = u32s (List.replicate (xs.length + ys.length) 0) := u32s_replicate _ 0
  have hn0 : ∀ n, nv (List.replicate n 0) = 0 := fun n => by
    induction n with
    | zero => rfl
    | succ n ih => rw [List.replicate_succ, nv, ih]
  simp only [hw, Int.toNat_natCast, hr]
  refine ⟨⟨by omega, by omega, by omega⟩, ⟨⟨Nat.zero_le _, by simp, fun x hx => by rw [(List.mem_replicate.1 hx).2]; decide⟩, by rw [hn0]; simp [nv], by rw [List.drop_replicate, hn0]⟩, by simp [d_out, u32s_nameless], ?_⟩
  rintro r ⟨hrl, hrd, hre⟩
  have ht : trimL r = dg (nv xs * nv ys) := by rw [← hre]; exact trimL_dig hrd
  have e : List.take ((xs.length + ys.length) * 1) (List.drop 0 (u32s r)) = u32s r := by
    rw [List.drop_zero, Nat.mul_one, ← hrl, ← u32s_length r, List.take_length]
  simp only [e, unu_u32s, ht, hrl, u32s_length]
  simp [u32s_nameless]; omega
def ent_times : Ent := fun ds => match ds with
  | [.ro n_xs ys_xs, .ro n_ys ys_ys] => some (.ro (dg (nv (unu ys_xs) * nv (unu ys_ys))).length (u32s (dg (nv (unu ys_xs) * nv (unu ys_ys)))), (ys_ys = u32s (unu ys_ys) ∧ n_ys = (unu ys_ys).length) ∧ (ys_xs = u32s (unu ys_xs) ∧ n_xs = (unu ys_xs).length) ∧ (unu ys_xs).length ≤ 400000 ∧ (unu ys_ys).length ≤ 400000 ∧ Dig (unu ys_xs) ∧ Dig (unu ys_ys))
  | _ => none
theorem ent_times_ok : EntOk Try.prog 69 ent_times := by
  intro ds d c h hc; unfold ent_times at h; split at h
  · rename_i n_xs ys_xs n_ys ys_ys; obtain ⟨rfl, rfl⟩ := pair_inj h
    obtain ⟨⟨h1, h2⟩, hc⟩ := hc; subst h2; generalize (unu ys_ys) = ys at *; subst h1
    obtain ⟨⟨h1, h2⟩, hc⟩ := hc; subst h2; generalize (unu ys_xs) = xs at *; subst h1
    exact times_pure xs ys hc
  · cases h
end Go.Proofs.Ythnhfkpihbjddaa
end
section
namespace Go.Proofs.Ythnhfkpihbjddaa
open Go.VD
set_option linter.unusedVariables false
set_option linter.unusedSimpArgs false
def cmpN (a b : Nat) : Int := if a < b then -1 else if b < a then 1 else 0
theorem cmpTop_nv {xs ys : List Nat} (hx : Dig xs) (hy : Dig ys) : ∀ n, n ≤ xs.length → n ≤ ys.length → cmpTop xs ys n = cmpN (nv (xs.take n)) (nv (ys.take n))
  | 0, _, _ => by simp [cmpTop, cmpN, nv]
  | n + 1, h1, h2 => by
    have ih := cmpTop_nv hx hy n (by omega) (by omega)
    have e1 := nv_take_succ xs n (by omega)
    have e2 := nv_take_succ ys n (by omega)
    have l1 := nv_lt (hx.take n)
    have l2 := nv_lt (hy.take n)
    rw [List.length_take, Nat.min_eq_left (by omega)] at l1 l2
    have key : ∀ a b P : Nat, a < b → a * P + P ≤ b * P := fun a b P h => by
      have := Nat.mul_le_mul_right P (show a + 1 ≤ b from h)
      rwa [Nat.add_mul, Nat.one_mul] at this
    unfold cmpTop
    rw [e1, e2, ih]
    unfold cmpN
    generalize nv (xs.take n) = a at *
    generalize nv (ys.take n) = b at *
    generalize xs.getD n 0 = x at *
    generalize ys.getD n 0 = y at *
    generalize 4294967296 ^ n = P at *
    rcases Nat.lt_trichotomy x y with h | h | h
    · have := key x y P h
      rw [if_pos h, if_pos (by omega)]
    · subst h
      simp only [Nat.lt_irrefl, if_false, Nat.add_lt_add_iff_right]
    · have := key y x P h
      rw [if_neg (by omega), if_pos h, if_neg (by omega), if_pos (by omega)]
theorem cmpL_dg (a b : Nat) : cmpL (dg a) (dg b) = cmpN a b := by
  unfold cmpL
  have ha := lt_of_dg_length (v := a) (Nat.le_refl _)
  have hb := lt_of_dg_length (v := b) (Nat.le_refl _)
  by_cases h : (dg a).length = (dg b).length
  · rw [if_neg (fun k => k h), cmpTop_nv (dg_dig a) (dg_dig b) _ (Nat.le_refl _) (by omega), List.take_length, h, List.take_length, nv_dg, nv_dg]
  · rw [if_pos h]
    by_cases h2 : (dg a).length < (dg b).length
    · rw [if_pos h2]
      have : ¬ b < 4294967296 ^ (dg a).length := fun k => by have := dg_length_le k; omega
      unfold cmpN
      rw [if_pos (by omega)]
    · rw [if_neg h2]
      have : ¬ a < 4294967296 ^ (dg b).length := fun k => by have := dg_length_le k; omega
      unfold cmpN
      rw [if_neg (by omega), if_pos (by omega)]
def iv (n : Bool) (xs : List Nat) : Int := if n then -(nv xs : Int) else (nv xs : Int)
def Good (n : Bool) (xs : List Nat) : Prop := xs = dg (nv xs) ∧ (n = true → nv xs ≠ 0)
theorem iv_of (v : Int) : iv (decide (v < 0)) (ofL v) = v := by
  unfold iv ofL
  rw [nv_dg]
  by_cases h : v < 0
  · simp [h]; omega
  · simp [h]; omega
theorem good_of (v : Int) : Good (decide (v < 0)) (ofL v) := by
  refine ⟨by unfold ofL; rw [nv_dg], fun h => ?_⟩
  unfold ofL
  rw [nv_dg]
  simp only [decide_eq_true_eq] at h
  omega
theorem good_zero : Good false [] := ⟨by rw [nv, dg_zero], by simp⟩
theorem iv_zero : iv false [] = 0 := by simp [iv, nv]
theorem good_eq {n : Bool} {xs : List Nat} (h : Good n xs) : n = decide (iv n xs < 0) ∧ xs = ofL (iv n xs) := by
  obtain ⟨h1, h2⟩ := h
  unfold ofL iv
  cases n with
  | false => refine ⟨by simp, ?_⟩; simp only [Bool.false_eq_true, if_false, Int.natAbs_natCast]; exact h1
  | true =>
    have := h2 rfl
    refine ⟨?_, ?_⟩
    · simp; omega
    · simp only [if_true, Int.natAbs_neg, Int.natAbs_natCast]; exact h1
theorem good_dig {n : Bool} {xs : List Nat} (h : Good n xs) : Dig xs := by rw [h.1]; exact dg_dig _
theorem last_dg {v : Nat} (h : v ≠ 0) : (dg v).length ≠ 0 ∧ (dg v).getD ((dg v).length - 1) 0 ≠ 0 := by
  have e := tn_dg v
  have hl : 0 < (dg v).length := by rw [dg_pos h]; simp
  refine ⟨by omega, fun h0 => ?_⟩
  obtain ⟨n, hn⟩ : ∃ n, (dg v).length = n + 1 := ⟨(dg v).length - 1, by omega⟩
  rw [hn] at e h0
  simp only [Nat.add_sub_cancel] at h0
  rw [tn, if_pos h0] at e
  have := tn_le (dg v) n
  omega
theorem good_valid {n : Bool} {xs : List Nat} (h : Good n xs) (hl : xs.length ≤ 400) : validL n xs = true := by
  obtain ⟨h1, h2⟩ := h
  unfold validL
  by_cases h0 : nv xs = 0
  · have e : xs = [] := by rw [h1, h0, dg_zero]
    subst e
    cases n with
    | false => rfl
    | true => exact absurd rfl (h2 rfl)
  · have := last_dg h0
    rw [← h1] at this
    rw [if_neg this.1]
    simp only [Bool.and_eq_true, decide_eq_true_eq]
    exact ⟨hl, this.2⟩
def cmpZ (a b : Int) : Int := if a < b then -1 else if b < a then 1 else 0
theorem cmpI_good {xn yn : Bool} {xs ys : List Nat} (hx : Good xn xs) (hy : Good yn ys) (lx : xs.length ≤ 400) (ly : ys.length ≤ 400) : cmpI xn xs yn ys = cmpZ (iv xn xs) (iv yn ys) := by
  unfold cmpI
  rw [good_valid hx lx, good_valid hy ly]
  have e1 : cmpL xs ys = cmpN (nv xs) (nv ys) := by rw [hx.1, hy.1, cmpL_dg, ← hx.1, ← hy.1]
  have e2 : cmpL ys xs = cmpN (nv ys) (nv xs) := by rw [hx.1, hy.1, cmpL_dg, ← hx.1, ← hy.1]
  rw [e1, e2]
  have h1 := hx.2
  have h2 := hy.2
  unfold cmpN cmpZ iv
  cases xn <;> cases yn <;> simp at h1 h2 ⊢ <;> grind
theorem cmpZ_zero (a : Int) : cmpZ a 0 = a.sign := by
  unfold cmpZ
  rcases Int.lt_trichotomy a 0 with h | h | h
  · rw [if_pos h, Int.sign_eq_neg_one_of_neg h]
  · subst h; rfl
  · rw [if_neg (by omega), if_pos h, Int.sign_eq_one_of_pos h]
theorem ofL_len {v : Int} {k : Nat} (h : v.natAbs < 4294967296 ^ k) : (ofL v).length ≤ k := dg_length_le h
theorem mul_iv (xn yn : Bool) (xs ys : List Nat) : madeN (xn != yn) (dg (nv xs * nv ys)) = decide (iv xn xs * iv yn ys < 0) ∧ trimL (dg (nv xs * nv ys)) = ofL (iv xn xs * iv yn ys) := by
  have h := madeN_dg (xn != yn) (nv xs * nv ys)
  have hz : ((nv xs * nv ys : Nat) : Int) = (nv xs : Int) * (nv ys : Int) := by simp
  refine ⟨?_, ?_⟩
  · rw [h.1]
    unfold iv
    cases xn <;> cases yn <;> simp only [if_true, Bool.false_eq_true, if_false, Int.neg_mul, Int.mul_neg, Int.neg_neg, ← hz] <;> generalize nv xs * nv ys = q <;> rw [Bool.eq_iff_iff] <;> simp <;> omega
  · rw [h.2]
    unfold ofL iv
    congr 1
    cases xn <;> cases yn <;> simp [Int.natAbs_mul]
theorem dg_mul_len {xs ys : List Nat} (hx : Dig xs) (hy : Dig ys) : (dg (nv xs * nv ys)).length ≤ xs.length + ys.length := by
  apply dg_length_le
  rw [Nat.pow_add]
  exact Nat.mul_lt_mul'' (nv_lt hx) (nv_lt hy)
end Go.Proofs.Ythnhfkpihbjddaa
end
section
namespace Go.Proofs.Ythnhfkpihbjddaa
open Go.VD
set_option linter.unusedVariables false
set_option linter.unusedSimpArgs false
def wT (off : Nat) (zs ys : List Nat) (k i : Nat) : Nat := nv ((zs.drop off).take i) + k * nv (ys.take i)
def addT (off : Nat) (zs ys : List Nat) (k i : Nat) : List Nat := zs.take off ++ (dgn i (wT off zs ys k i) ++ zs.drop (off + i))
def carT (off : Nat) (zs ys : List Nat) (k i : Nat) : Nat := wT off zs ys k i / 4294967296 ^ i
theorem dgn_mod : ∀ (i v x : Nat), dgn i (v + 4294967296 ^ i * x) = dgn i v
  | 0, v, x => rfl
  | i + 1, v, x => by
    have e : v + 4294967296 ^ (i + 1) * x = v + 4294967296 * (4294967296 ^ i * x) := by rw [Nat.pow_succ]; grind
    have e1 : (v + 4294967296 * (4294967296 ^ i * x)) % 4294967296 = v % 4294967296 := by omega
    have e2 : (v + 4294967296 * (4294967296 ^ i * x)) / 4294967296 = v / 4294967296 + 4294967296 ^ i * x := by omega
    rw [dgn, dgn, e, e1, e2, dgn_mod i]
theorem addT_length {off : Nat} {zs ys : List Nat} {k i : Nat} (h : off + i ≤ zs.length) : (addT off zs ys k i).length = zs.length := by
  simp [addT, dgn_length]; omega
theorem getD_drop (zs : List Nat) (off i : Nat) : (zs.drop off).getD i 0 = zs.getD (off + i) 0 := by
  simp [List.getD_eq_getElem?_getD, List.getElem?_drop]
theorem wT_succ {off : Nat} {zs ys : List Nat} {k i : Nat} (h1 : off + i < zs.length) (h2 : i < ys.length) : wT off zs ys k (i + 1) = wT off zs ys k i + 4294967296 ^ i * (zs.getD (off + i) 0 + k * ys.getD i 0) := by
  unfold wT
  rw [nv_take_succ _ i (by simp; omega), nv_take_succ _ i h2, getD_drop]
  generalize 4294967296 ^ i = P
  grind
theorem wT_lt {off : Nat} {zs ys : List Nat} {k i : Nat} (hz : Dig zs) (hy : Dig ys) (hk : k < 4294967296) (h1 : off + i ≤ zs.length) (h2 : i ≤ ys.length) : wT off zs ys k i < 4294967296 * 4294967296 ^ i := by
  have a := nv_lt ((hz.drop off).take i)
  have b := nv_lt (hy.take i)
  have la : ((zs.drop off).take i).length = i := by simp; omega
  have lb : (ys.take i).length = i := by simp; omega
  rw [la] at a
  rw [lb] at b
  unfold wT
  have c : k * nv (ys.take i) ≤ 4294967295 * (4294967296 ^ i - 1) := Nat.mul_le_mul (by omega) (by omega)
  generalize 4294967296 ^ i = P at *
  omega
theorem carT_lt {off : Nat} {zs ys : List Nat} {k i : Nat} (hz : Dig zs) (hy : Dig ys) (hk : k < 4294967296) (h1 : off + i ≤ zs.length) (h2 : i ≤ ys.length) : carT off zs ys k i < 4294967296 := by
  unfold carT
  rw [Nat.div_lt_iff_lt_mul (pow_pos32 i)]
  exact wT_lt hz hy hk h1 h2
theorem stepT {off : Nat} {zs ys : List Nat} {k i : Nat} (h1 : off + i < zs.length) (h2 : i < ys.length) : wT off zs ys k (i + 1) / 4294967296 ^ i = carT off zs ys k i + (zs.getD (off + i) 0 + k * ys.getD i 0) := by
  rw [wT_succ h1 h2, Nat.add_mul_div_left _ _ (pow_pos32 i)]; rfl
theorem carT_succ {off : Nat} {zs ys : List Nat} {k i : Nat} (h1 : off + i < zs.length) (h2 : i < ys.length) : carT off zs ys k (i + 1) = (ys.getD i 0 * k + zs.getD (off + i) 0 + carT off zs ys k i) / 4294967296 := by
  have := stepT (off := off) (zs := zs) (ys := ys) (k := k) h1 h2
  unfold carT at *
  rw [div_pow_succ, this, Nat.mul_comm (ys.getD i 0)]
  congr 1; omega
theorem addT_get {off : Nat} {zs ys : List Nat} {k i : Nat} (h1 : off + i < zs.length) : (addT off zs ys k i).getD (off + i) 0 = zs.getD (off + i) 0 := by
  unfold addT
  have l1 : (zs.take off).length = off := by simp; omega
  rw [List.getD_eq_getElem?_getD, List.getElem?_append_right (by omega), l1, show off + i - off = i by omega, List.getElem?_append_right (by rw [dgn_length]; exact Nat.le_refl _), dgn_length, Nat.sub_self, List.getElem?_drop, Nat.add_zero, ← List.getD_eq_getElem?_getD]
theorem addT_set {off : Nat} {zs ys : List Nat} {k i : Nat} (h1 : off + i < zs.length) (h2 : i < ys.length) : (addT off zs ys k i).set (off + i) ((ys.getD i 0 * k + zs.getD (off + i) 0 + carT off zs ys k i) % 4294967296) = addT off zs ys k (i + 1) := by
  have l1 : (zs.take off).length = off := by simp; omega
  have st := stepT (off := off) (zs := zs) (ys := ys) (k := k) h1 h2
  unfold addT
  rw [dgn_succ, st, wT_succ h1 h2, dgn_mod]
  rw [List.set_append_right _ _ (by omega), l1, show off + i - off = i by omega, List.set_append_right _ _ (by rw [dgn_length]; exact Nat.le_refl _), dgn_length, Nat.sub_self, List.drop_eq_getElem_cons h1]
  have e : ys.getD i 0 * k + zs.getD (off + i) 0 + carT off zs ys k i = carT off zs ys k i + (zs.getD (off + i) 0 + k * ys.getD i 0) := by rw [Nat.mul_comm (ys.getD i 0)]; omega
  rw [e]
  simp [Nat.add_assoc]
theorem addT_drop {off : Nat} {zs ys : List Nat} {k i : Nat} (h : off + i ≤ zs.length) (j : Nat) : (addT off zs ys k i).drop (off + i + j) = zs.drop (off + i + j) := by
  have l1 : (zs.take off).length = off := by simp; omega
  unfold addT
  rw [← List.append_assoc, List.drop_append]
  rw [List.drop_eq_nil_of_le (by rw [List.length_append, l1, dgn_length]; omega), List.length_append, l1, dgn_length, show off + i + j - (off + i) = j by omega, List.drop_drop]
  rfl
theorem addT_dig {off : Nat} {zs ys : List Nat} {k i : Nat} (hz : Dig zs) : Dig (addT off zs ys k i) := by
  unfold addT
  exact Dig.app.2 ⟨hz.take _, Dig.app.2 ⟨dgn_dig _ _, hz.drop _⟩⟩
theorem addT_nil (off : Nat) (zs ys : List Nat) (k : Nat) : addT off zs ys k 0 = zs ∧ carT off zs ys k 0 = 0 := by
  simp [addT, carT, wT, dgn, nv]
theorem addT_value {off : Nat} {zs ys : List Nat} {k : Nat} (hz : Dig zs) (hl : off + ys.length < zs.length) (h0 : nv (zs.drop (off + ys.length)) = 0) :
    nv ((addT off zs ys k ys.length).set (off + ys.length) (carT off zs ys k ys.length)) = nv zs + k * 4294967296 ^ off * nv ys := by
  have h1 := nv_put (addT off zs ys k ys.length) (off + ys.length) (carT off zs ys k ys.length) (by rw [addT_length (by omega)]; omega)
  rw [addT_get hl] at h1
  have hd := nv_drop_succ zs (off + ys.length)
  rw [h0] at hd
  have e0 : zs.getD (off + ys.length) 0 = 0 := by omega
  rw [e0, Nat.zero_mul, Nat.add_zero] at h1
  rw [h1]
  have l1 : (zs.take off).length = off := by simp; omega
  have hA : nv (addT off zs ys k ys.length) = nv (zs.take off) + 4294967296 ^ off * (wT off zs ys k ys.length % 4294967296 ^ ys.length) := by
    unfold addT
    rw [nv_append, nv_append, nv_dgn, h0, l1]; simp
  have hz2 : nv zs = nv (zs.take off) + 4294967296 ^ off * nv ((zs.drop off).take ys.length) := by
    have e1 := nv_append (zs.take off) (zs.drop off)
    rw [List.take_append_drop, l1] at e1
    have e2 := nv_append ((zs.drop off).take ys.length) ((zs.drop off).drop ys.length)
    rw [List.take_append_drop, List.drop_drop, h0] at e2
    rw [e1, e2]; simp
  have hw : wT off zs ys k ys.length = nv ((zs.drop off).take ys.length) + k * nv ys := by unfold wT; rw [List.take_length]
  rw [hA, hz2]
  unfold carT
  have hdm := Nat.mod_add_div (wT off zs ys k ys.length) (4294967296 ^ ys.length)
  rw [Nat.pow_add]
  generalize wT off zs ys k ys.length / 4294967296 ^ ys.length = q at *
  generalize wT off zs ys k ys.length % 4294967296 ^ ys.length = r at *
  rw [hw] at hdm
  generalize nv ((zs.drop off).take ys.length) = a at *
  generalize nv ys = y at *
  generalize nv (zs.take off) = u at *
  generalize 4294967296 ^ ys.length = Q at *
  generalize 4294967296 ^ off = A at *
  have h2 : A * (r + Q * q) = A * (a + k * y) := by rw [hdm]
  grind
end Go.Proofs.Ythnhfkpihbjddaa
end
