/- Layer 1: the law on valid integers, Small, Sign, Compare and Text. -/
import Derived.Test.YtgilijgbljgekaaIv
import Derived.Test.YtgilijgbljgekaaIia
namespace Go.Proofs.Ytgilijgbljgekaa
open Go.VD
set_option linter.unusedVariables false
set_option linter.unusedSimpArgs false
set_option maxRecDepth 100000

theorem iSign_pure (xn : Bool) (xs : List Nat) (hpre : xs.length ≤ 1000000000000) : PureJ Try.prog 19 [.agg [.v (.bool xn), .ro xs.length (u32s xs)]] (.v (.int .i64 (cmpI xn xs false []))) := by
  refine pureJ_of_vcx (call := (addPure 21 (nilEnt ent_iCompare) noCalls)) (lp := fun _ => none) (N := 10) T_ok mixed (addPure_ok (nilEnt_ok ent_iCompare_ok) noCalls_ok) Try.func19 rfl (by decide) (by kernel_rfl) (by kernel_rfl) (LpAll.none _) (by first | trivial | (simp only [NamelessL, Nameless, and_self, and_true, true_and]; done) | (simp [NamelessL, Nameless, u32s_nameless, namelessL_ints]; done)) (by first | trivial | (simp only [NamelessL, Nameless, and_self, and_true, true_and]; done) | (simp [NamelessL, Nameless, u32s_nameless, namelessL_ints]; done)) ?_
  refine of_eq (B := (True ∧ (True ∧ (((2 : Nat) ≤ (2 : Nat)) ∧ (True ∧ ((((([] : List D) = (u32s (unu ([] : List D)))) ∧ ((0 : Nat) = (0 : Nat))) ∧ ((((u32s xs) = (u32s (unu (u32s xs)))) ∧ ((List.length xs) = (List.length (unu (u32s xs))))) ∧ (((List.length (unu (u32s xs))) ≤ (1000000000000 : Nat)) ∧ ((0 : Nat) ≤ (1000000000000 : Nat))))) ∧ (True ∧ (True ∧ (True ∧ ((D.v (Value.int IntKind.i64 (cmpI xn (unu (u32s xs)) Bool.false (unu ([] : List D))))) = (D.v (Value.int IntKind.i64 (cmpI xn xs Bool.false ([] : List Nat)))))))))))))) (by kernel_rfl) ?_
  simp only [true_and, and_true, and_self, IsInt_lit, IsBool_lit, IsStr_lit, Bool.not_eq_true', Bool.not_eq_false', Bool.not_true, Bool.not_false, Int.reduceLE, Int.reduceLT, Int.reduceNeg, Nat.le_refl, Int.le_refl, Nat.reduceLT, Nat.reduceLeDiff, Nat.reduceEqDiff, D.v.injEq, D.tup.injEq, D.agg.injEq, D.ro.injEq, List.cons.injEq, Value.int.injEq, Value.bool.injEq, pcond_true, pcond_false, NamelessL, Nameless, Nat.reduceMul, Nat.reduceAdd, Nat.zero_add, Int.toNat_natCast, unu_u32s]
  exact ⟨⟨rfl, hpre⟩, rfl⟩
def ent_iSign : Ent := fun ds => match ds with
  | [.agg [.v (.bool xn), .ro n_xs ys_xs]] => some (.v (.int .i64 (cmpI xn (unu ys_xs) false [])), (ys_xs = u32s (unu ys_xs) ∧ n_xs = (unu ys_xs).length) ∧ (unu ys_xs).length ≤ 1000000000000)
  | _ => none
theorem ent_iSign_ok : EntOk Try.prog 19 ent_iSign := by
  intro ds d c h hc; unfold ent_iSign at h; split at h
  · rename_i xn n_xs ys_xs; obtain ⟨rfl, rfl⟩ := pair_inj h
    obtain ⟨⟨h1, h2⟩, hc⟩ := hc; subst h2; generalize (unu ys_xs) = xs at *; subst h1
    exact iSign_pure _ xs hc
  · cases h
def ent_iValid0 : Ent := fun ds => match ds with
  | [.agg [.v (.bool neg), .ro n ys]] => some (.v (.bool false), (ys = u32s (unu ys) ∧ n = (unu ys).length) ∧ (unu ys).length ≤ 1000 ∧ validL neg (unu ys) = false)
  | _ => none
theorem ent_iValid0_ok : EntOk Try.prog 17 ent_iValid0 := by
  intro ds d c h hc; unfold ent_iValid0 at h; split at h
  · rename_i xn n ys; obtain ⟨rfl, rfl⟩ := pair_inj h
    obtain ⟨⟨h1, h2⟩, hl, hv⟩ := hc; subst h2; generalize unu ys = xs at *; subst h1
    have := iValid_pure xn xs (by omega)
    rwa [hv] at this
  · cases h
theorem iSmall0_pure (xn : Bool) (xs : List Nat) (hpre : validL xn xs = false ∧ xs.length ≤ 1000) : PureJ Try.prog 15 [.agg [.v (.bool xn), .ro xs.length (u32s xs)]] (.tup [.v (.int .i64 0), .v (.bool false)]) := by
  refine pureJ_of_vcx (call := (addPure 17 ent_iValid0 noCalls)) (lp := fun _ => none) (N := 10) T_ok mixed (addPure_ok ent_iValid0_ok noCalls_ok) Try.func15 rfl (by decide) (by kernel_rfl) (by kernel_rfl) (LpAll.none _) (by first | trivial | (simp only [NamelessL, Nameless, and_self, and_true, true_and]; done) | (simp [NamelessL, Nameless, u32s_nameless, namelessL_ints]; done)) (by first | trivial | (simp only [NamelessL, Nameless, and_self, and_true, true_and]; done) | (simp [NamelessL, Nameless, u32s_nameless, namelessL_ints]; done)) ?_
  refine of_eq (B := (True ∧ (True ∧ (True ∧ (((2 : Nat) ≤ (2 : Nat)) ∧ (((((u32s xs) = (u32s (unu (u32s xs)))) ∧ ((List.length xs) = (List.length (unu (u32s xs))))) ∧ (((List.length (unu (u32s xs))) ≤ (1000 : Nat)) ∧ ((validL xn (unu (u32s xs))) = Bool.false))) ∧ (True ∧ (True ∧ (True ∧ (True ∧ (True ∧ (True ∧ ((True ∧ (True ∧ True)) ∧ ((D.tup [(D.v (Value.int IntKind.i64 (0 : Int))), (D.v (Value.bool Bool.false))]) = (D.tup [(D.v (Value.int IntKind.i64 (0 : Int))), (D.v (Value.bool Bool.false))]))))))))))))))) (by kernel_rfl) ?_
  obtain ⟨h, hl⟩ := hpre
  simp only [true_and, and_true, and_self, IsInt_lit, IsBool_lit, IsStr_lit, Bool.not_eq_true', Bool.not_eq_false', Bool.not_true, Bool.not_false, Int.reduceLE, Int.reduceLT, Int.reduceNeg, Nat.le_refl, Int.le_refl, Nat.reduceLT, Nat.reduceLeDiff, Nat.reduceEqDiff, D.v.injEq, D.tup.injEq, D.agg.injEq, D.ro.injEq, List.cons.injEq, Value.int.injEq, Value.bool.injEq, pcond_true, pcond_false, NamelessL, Nameless, Nat.reduceMul, Nat.reduceAdd, Nat.zero_add, Int.toNat_natCast, unu_u32s, h]
  omega
def ent_iSmall0 : Ent := fun ds => match ds with
  | [.agg [.v (.bool xn), .ro n_xs ys_xs]] => some (.tup [.v (.int .i64 0), .v (.bool false)], (ys_xs = u32s (unu ys_xs) ∧ n_xs = (unu ys_xs).length) ∧ validL xn (unu ys_xs) = false ∧ (unu ys_xs).length ≤ 1000)
  | _ => none
theorem ent_iSmall0_ok : EntOk Try.prog 15 ent_iSmall0 := by
  intro ds d c h hc; unfold ent_iSmall0 at h; split at h
  · rename_i xn n_xs ys_xs; obtain ⟨rfl, rfl⟩ := pair_inj h
    obtain ⟨⟨h1, h2⟩, hc⟩ := hc; subst h2; generalize (unu ys_xs) = xs at *; subst h1
    exact iSmall0_pure _ xs hc
  · cases h
def ent_gValid0 : Ent := fun ds => match ds with
  | [.agg [.v (.bool neg), .ro n ys]] => some (.v (.bool false), (ys = u32s (unu ys) ∧ n = (unu ys).length) ∧ (unu ys).length ≤ 1000 ∧ validL neg (unu ys) = false)
  | _ => none
theorem ent_gValid0_ok : EntOk Try.prog 18 ent_gValid0 := by
  intro ds d c h hc; unfold ent_gValid0 at h; split at h
  · rename_i xn n ys; obtain ⟨rfl, rfl⟩ := pair_inj h
    obtain ⟨⟨h1, h2⟩, hl, hv⟩ := hc; subst h2; generalize unu ys = xs at *; subst h1
    have := Valid_pure xn xs (by omega)
    rwa [hv] at this
  · cases h
theorem gSmall0_pure (xn : Bool) (xs : List Nat) (hpre : validL xn xs = false ∧ xs.length ≤ 1000) : PureJ Try.prog 16 [.agg [.v (.bool xn), .ro xs.length (u32s xs)]] (.tup [.v (.int .i64 0), .v (.bool false)]) := by
  refine pureJ_of_vcx (call := (addPure 18 ent_gValid0 noCalls)) (lp := fun _ => none) (N := 10) T_ok mixed (addPure_ok ent_gValid0_ok noCalls_ok) Try.func16 rfl (by decide) (by kernel_rfl) (by kernel_rfl) (LpAll.none _) (by first | trivial | (simp only [NamelessL, Nameless, and_self, and_true, true_and]; done) | (simp [NamelessL, Nameless, u32s_nameless, namelessL_ints]; done)) (by first | trivial | (simp only [NamelessL, Nameless, and_self, and_true, true_and]; done) | (simp [NamelessL, Nameless, u32s_nameless, namelessL_ints]; done)) ?_
  refine of_eq (B := (True ∧ (True ∧ (True ∧ (((2 : Nat) ≤ (2 : Nat)) ∧ (((((u32s xs) = (u32s (unu (u32s xs)))) ∧ ((List.length xs) = (List.length (unu (u32s xs))))) ∧ (((List.length (unu (u32s xs))) ≤ (1000 : Nat)) ∧ ((validL xn (unu (u32s xs))) = Bool.false))) ∧ (True ∧ (True ∧ (True ∧ (True ∧ (True ∧ (True ∧ ((True ∧ (True ∧ True)) ∧ ((D.tup [(D.v (Value.int IntKind.i64 (0 : Int))), (D.v (Value.bool Bool.false))]) = (D.tup [(D.v (Value.int IntKind.i64 (0 : Int))), (D.v (Value.bool Bool.false))]))))))))))))))) (by kernel_rfl) ?_
  obtain ⟨h, hl⟩ := hpre
  simp only [true_and, and_true, and_self, IsInt_lit, IsBool_lit, IsStr_lit, Bool.not_eq_true', Bool.not_eq_false', Bool.not_true, Bool.not_false, Int.reduceLE, Int.reduceLT, Int.reduceNeg, Nat.le_refl, Int.le_refl, Nat.reduceLT, Nat.reduceLeDiff, Nat.reduceEqDiff, D.v.injEq, D.tup.injEq, D.agg.injEq, D.ro.injEq, List.cons.injEq, Value.int.injEq, Value.bool.injEq, pcond_true, pcond_false, NamelessL, Nameless, Nat.reduceMul, Nat.reduceAdd, Nat.zero_add, Int.toNat_natCast, unu_u32s, h]
  omega
def ent_gSmall0 : Ent := fun ds => match ds with
  | [.agg [.v (.bool xn), .ro n_xs ys_xs]] => some (.tup [.v (.int .i64 0), .v (.bool false)], (ys_xs = u32s (unu ys_xs) ∧ n_xs = (unu ys_xs).length) ∧ validL xn (unu ys_xs) = false ∧ (unu ys_xs).length ≤ 1000)
  | _ => none
theorem ent_gSmall0_ok : EntOk Try.prog 16 ent_gSmall0 := by
  intro ds d c h hc; unfold ent_gSmall0 at h; split at h
  · rename_i xn n_xs ys_xs; obtain ⟨rfl, rfl⟩ := pair_inj h
    obtain ⟨⟨h1, h2⟩, hc⟩ := hc; subst h2; generalize (unu ys_xs) = xs at *; subst h1
    exact gSmall0_pure _ xs hc
  · cases h
def smI (xn : Bool) (xs : List Nat) : Int × Bool := bif validL xn xs then (if fitsI (iv xn xs) then iv xn xs else 0, fitsI (iv xn xs)) else (0, false)
theorem hSmall_pure (xn : Bool) (xs : List Nat) (hpre : LenOk xs) : PureJ Try.prog 15 [.agg [.v (.bool xn), .ro xs.length (u32s xs)]] (.tup [.v (.int .i64 (smI xn xs).1), .v (.bool (smI xn xs).2)]) := by
  unfold smI
  cases h : validL xn xs with
  | true => exact iSmall_pure xn xs (valid_good hpre.2 h)
  | false => exact iSmall0_pure xn xs ⟨h, hpre.1⟩
theorem gSmall_pure (xn : Bool) (xs : List Nat) (hpre : LenOk xs) : PureJ Try.prog 16 [.agg [.v (.bool xn), .ro xs.length (u32s xs)]] (.tup [.v (.int .i64 (smI xn xs).1), .v (.bool (smI xn xs).2)]) := by
  unfold smI
  cases h : validL xn xs with
  | true => exact Small_pure xn xs (valid_good hpre.2 h)
  | false => exact gSmall0_pure xn xs ⟨h, hpre.1⟩
def ent_hSmall : Ent := fun ds => match ds with
  | [.agg [.v (.bool xn), .ro n ys]] => some (.tup [.v (.int .i64 (smI xn (unu ys)).1), .v (.bool (smI xn (unu ys)).2)], (ys = u32s (unu ys) ∧ n = (unu ys).length) ∧ LenOk (unu ys))
  | _ => none
theorem ent_hSmall_ok : EntOk Try.prog 15 ent_hSmall := by
  intro ds d c h hc; unfold ent_hSmall at h; split at h
  · rename_i xn n ys; obtain ⟨rfl, rfl⟩ := pair_inj h
    obtain ⟨⟨h1, h2⟩, hc⟩ := hc; subst h2; generalize unu ys = xs at *; subst h1
    exact hSmall_pure xn xs hc
  · cases h
def ent_gSmall : Ent := fun ds => match ds with
  | [.agg [.v (.bool xn), .ro n ys]] => some (.tup [.v (.int .i64 (smI xn (unu ys)).1), .v (.bool (smI xn (unu ys)).2)], (ys = u32s (unu ys) ∧ n = (unu ys).length) ∧ LenOk (unu ys))
  | _ => none
theorem ent_gSmall_ok : EntOk Try.prog 16 ent_gSmall := by
  intro ds d c h hc; unfold ent_gSmall at h; split at h
  · rename_i xn n ys; obtain ⟨rfl, rfl⟩ := pair_inj h
    obtain ⟨⟨h1, h2⟩, hc⟩ := hc; subst h2; generalize unu ys = xs at *; subst h1
    exact gSmall_pure xn xs hc
  · cases h
theorem lawValid_pure (xn : Bool) (xs : List Nat) (yn : Bool) (ys : List Nat) (hpre : Dig xs ∧ Dig ys) : PureJ Try.prog 3 [.agg [.v (.bool xn), .ro xs.length (u32s xs)], .agg [.v (.bool yn), .ro ys.length (u32s ys)]] (.v (.bool true)) := by
  refine pureJ_of_vcx (call := (addPure 13 ent_known (addPure 14 ent_gLarge (addPure 15 ent_hSmall (addPure 16 ent_gSmall (addPure 17 ent_iValid (addPure 18 ent_Valid (addPure 19 ent_iSign (addPure 20 ent_Sign (addPure 21 ent_iCompare (addPure 22 ent_Compare (addPure 23 ent_iText (addPure 24 ent_Text noCalls))))))))))))) (lp := fun _ => none) (N := 10) T_ok mixed (addPure_ok ent_known_ok (addPure_ok ent_gLarge_ok (addPure_ok ent_hSmall_ok (addPure_ok ent_gSmall_ok (addPure_ok ent_iValid_ok (addPure_ok ent_Valid_ok (addPure_ok ent_iSign_ok (addPure_ok ent_Sign_ok (addPure_ok ent_iCompare_ok (addPure_ok ent_Compare_ok (addPure_ok ent_iText_ok (addPure_ok ent_Text_ok noCalls_ok)))))))))))) Try.func3 rfl (by decide) (by kernel_rfl) (by kernel_rfl) (LpAll.none _) (by first | trivial | (simp only [NamelessL, Nameless, and_self, and_true, true_and]; done) | (simp [NamelessL, Nameless, u32s_nameless, namelessL_ints]; done)) (by first | trivial | (simp only [NamelessL, Nameless, and_self, and_true, true_and]; done) | (simp [NamelessL, Nameless, u32s_nameless, namelessL_ints]; done)) ?_
  refine of_eq (B := (True ∧ (True ∧ (True ∧ (True ∧ (True ∧ (((2 : Nat) ≤ (2 : Nat)) ∧ (((2 : Nat) ≤ (2 : Nat)) ∧ ((((4 : Nat) ≤ (16777216 : Nat)) ∧ ((2 : Nat) ≤ (9223372036854775807 : Nat))) ∧ (((((NamelessL [(D.v (Value.bool xn)), (D.ro (List.length xs) (u32s xs)), (D.v (Value.bool yn)), (D.ro (List.length ys) (u32s ys))]) ∧ (((0 : Nat) < (2 : Nat)) ∧ ((4 : Nat) ≤ (4 : Nat)))) ∧ True) ∧ ((((u32s ys) = (u32s (unu (u32s ys)))) ∧ ((List.length ys) = (List.length (unu (u32s ys))))) ∧ ((((u32s xs) = (u32s (unu (u32s xs)))) ∧ ((List.length xs) = (List.length (unu (u32s xs))))) ∧ True))) ∧ (pcond ((Decidable.decide ((40 : Nat) < (List.length (unu (u32s xs))))) || (Decidable.decide ((40 : Nat) < (List.length (unu (u32s ys)))))) (True ∧ (True ∧ (True ∧ ((D.v (Value.bool Bool.true)) = (D.v (Value.bool Bool.true)))))) (((2 : Nat) ≤ (2 : Nat)) ∧ (((((u32s xs) = (u32s (unu (u32s xs)))) ∧ ((List.length xs) = (List.length (unu (u32s xs))))) ∧ (LenOk (unu (u32s xs)))) ∧ (True ∧ (True ∧ (True ∧ (True ∧ (True ∧ (((2 : Nat) ≤ (2 : Nat)) ∧ (((((u32s xs) = (u32s (unu (u32s xs)))) ∧ ((List.length xs) = (List.length (unu (u32s xs))))) ∧ (LenOk (unu (u32s xs)))) ∧ (True ∧ (True ∧ (True ∧ (True ∧ (True ∧ (((2 : Nat) ≤ (2 : Nat)) ∧ (((((u32s xs) = (u32s (unu (u32s xs)))) ∧ ((List.length xs) = (List.length (unu (u32s xs))))) ∧ ((List.length (unu (u32s xs))) ≤ (1000000000000 : Nat))) ∧ (((2 : Nat) ≤ (2 : Nat)) ∧ (((((u32s xs) = (u32s (unu (u32s xs)))) ∧ ((List.length xs) = (List.length (unu (u32s xs))))) ∧ ((List.length (unu (u32s xs))) ≤ (1000000000000 : Nat))) ∧ (True ∧ (True ∧ (pcond ((validL xn (unu (u32s xs))) == (validL xn (unu (u32s xs)))) (((2 : Nat) ≤ (2 : Nat)) ∧ (((((u32s xs) = (u32s (unu (u32s xs)))) ∧ ((List.length xs) = (List.length (unu (u32s xs))))) ∧ ((List.length (unu (u32s xs))) ≤ (1000000000000 : Nat))) ∧ (((2 : Nat) ≤ (2 : Nat)) ∧ (((((u32s xs) = (u32s (unu (u32s xs)))) ∧ ((List.length xs) = (List.length (unu (u32s xs))))) ∧ ((List.length (unu (u32s xs))) ≤ (1000000000000 : Nat))) ∧ (True ∧ (True ∧ (True ∧ (pcond ((cmpI xn (unu (u32s xs)) Bool.false ([] : List Nat)) == (cmpI xn (unu (u32s xs)) Bool.false ([] : List Nat))) (((2 : Nat) ≤ (2 : Nat)) ∧ (((2 : Nat) ≤ (2 : Nat)) ∧ (((((u32s ys) = (u32s (unu (u32s ys)))) ∧ ((List.length ys) = (List.length (unu (u32s ys))))) ∧ ((((u32s xs) = (u32s (unu (u32s xs)))) ∧ ((List.length xs) = (List.length (unu (u32s xs))))) ∧ (((List.length (unu (u32s xs))) ≤ (1000000000000 : Nat)) ∧ ((List.length (unu (u32s ys))) ≤ (1000000000000 : Nat))))) ∧ (((2 : Nat) ≤ (2 : Nat)) ∧ (((2 : Nat) ≤ (2 : Nat)) ∧ (((((u32s ys) = (u32s (unu (u32s ys)))) ∧ ((List.length ys) = (List.length (unu (u32s ys))))) ∧ ((((u32s xs) = (u32s (unu (u32s xs)))) ∧ ((List.length xs) = (List.length (unu (u32s xs))))) ∧ (((List.length (unu (u32s xs))) ≤ (1000000000000 : Nat)) ∧ ((List.length (unu (u32s ys))) ≤ (1000000000000 : Nat))))) ∧ (True ∧ (True ∧ (True ∧ (pcond ((cmpI xn (unu (u32s xs)) yn (unu (u32s ys))) == (cmpI xn (unu (u32s xs)) yn (unu (u32s ys)))) (True ∧ (True ∧ (True ∧ (True ∧ (True ∧ (pcond ((Prod.fst (smI xn (unu (u32s xs)))) == (Prod.fst (smI xn (unu (u32s xs))))) (True ∧ (True ∧ (True ∧ (True ∧ (True ∧ (pcond ((Prod.snd (smI xn (unu (u32s xs)))) == (Prod.snd (smI xn (unu (u32s xs))))) (((2 : Nat) ≤ (2 : Nat)) ∧ (((((u32s xs) = (u32s (unu (u32s xs)))) ∧ ((List.length xs) = (List.length (unu (u32s xs))))) ∧ (LenOk (unu (u32s xs)))) ∧ (((2 : Nat) ≤ (2 : Nat)) ∧ (((((u32s xs) = (u32s (unu (u32s xs)))) ∧ ((List.length xs) = (List.length (unu (u32s xs))))) ∧ (LenOk (unu (u32s xs)))) ∧ (True ∧ (True ∧ (True ∧ ((Bool.true = Bool.true) ∧ (True ∧ (True ∧ ((D.v (Value.bool ((ByteArray.toList (txtB xn (unu (u32s xs)))) == (ByteArray.toList (txtB xn (unu (u32s xs))))))) = (D.v (Value.bool Bool.true))))))))))))) (True ∧ (True ∧ ((Bool.true = Bool.true) ∧ (True ∧ (True ∧ ((D.v (Value.bool Bool.false)) = (D.v (Value.bool Bool.true)))))))))))))) (True ∧ (True ∧ (True ∧ (True ∧ ((Bool.true = Bool.true) ∧ (True ∧ (True ∧ ((D.v (Value.bool Bool.false)) = (D.v (Value.bool Bool.true)))))))))))))))) (True ∧ (True ∧ (True ∧ (True ∧ (True ∧ (True ∧ ((Bool.true = Bool.true) ∧ (True ∧ (True ∧ ((D.v (Value.bool Bool.false)) = (D.v (Value.bool Bool.true)))))))))))))))))))))) (True ∧ (True ∧ (True ∧ (True ∧ (True ∧ (True ∧ (True ∧ (True ∧ ((Bool.true = Bool.true) ∧ (True ∧ (True ∧ ((D.v (Value.bool Bool.false)) = (D.v (Value.bool Bool.true)))))))))))))))))))))) (True ∧ (True ∧ (True ∧ (True ∧ (True ∧ (True ∧ (True ∧ (True ∧ (True ∧ (True ∧ ((Bool.true = Bool.true) ∧ (True ∧ (True ∧ ((D.v (Value.bool Bool.false)) = (D.v (Value.bool Bool.true)))))))))))))))))))))))))))))))))))))))))))))))) (by kernel_rfl) ?_
  simp only [true_and, and_true, and_self, IsInt_lit, IsBool_lit, IsStr_lit, Bool.not_eq_true', Bool.not_eq_false', Bool.not_true, Bool.not_false, Int.reduceLE, Int.reduceLT, Int.reduceNeg, Nat.le_refl, Int.le_refl, Nat.reduceLT, Nat.reduceLeDiff, Nat.reduceEqDiff, D.v.injEq, D.tup.injEq, D.agg.injEq, D.ro.injEq, List.cons.injEq, Value.int.injEq, Value.bool.injEq, pcond_true, pcond_false, NamelessL, Nameless, Nat.reduceMul, Nat.reduceAdd, Nat.zero_add, Int.toNat_natCast, unu_u32s, beq_self_eq_true]
  obtain ⟨dx, dy⟩ := hpre
  refine ⟨⟨u32s_nameless _, u32s_nameless _⟩, pcond_intro (fun _ => trivial) (fun h => ?_)⟩
  simp only [Bool.or_eq_false_iff, decide_eq_false_iff_not] at h
  have kx : LenOk xs := ⟨by omega, dx⟩
  have ky : LenOk ys := ⟨by omega, dy⟩
  exact ⟨kx, kx, by omega, by omega, by omega, by omega, ⟨by omega, by omega⟩, ⟨by omega, by omega⟩, kx⟩
def ent_lawValid : Ent := fun ds => match ds with
  | [.agg [.v (.bool xn), .ro n_xs ys_xs], .agg [.v (.bool yn), .ro n_ys ys_ys]] => some (.v (.bool true), (ys_ys = u32s (unu ys_ys) ∧ n_ys = (unu ys_ys).length) ∧ (ys_xs = u32s (unu ys_xs) ∧ n_xs = (unu ys_xs).length) ∧ Dig (unu ys_xs) ∧ Dig (unu ys_ys))
  | _ => none
theorem ent_lawValid_ok : EntOk Try.prog 3 ent_lawValid := by
  intro ds d c h hc; unfold ent_lawValid at h; split at h
  · rename_i xn n_xs ys_xs yn n_ys ys_ys; obtain ⟨rfl, rfl⟩ := pair_inj h
    obtain ⟨⟨h1, h2⟩, hc⟩ := hc; subst h2; generalize (unu ys_ys) = ys at *; subst h1
    obtain ⟨⟨h1, h2⟩, hc⟩ := hc; subst h2; generalize (unu ys_xs) = xs at *; subst h1
    exact lawValid_pure _ xs _ ys hc
  · cases h
end Go.Proofs.Ytgilijgbljgekaa
