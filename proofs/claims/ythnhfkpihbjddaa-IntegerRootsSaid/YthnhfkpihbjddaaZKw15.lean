import Derived.Test.YthnhfkpihbjddaaZKw14
import Derived.Test.YthnhfkpihbjddaaZKw9
import Derived.Test.YthnhfkpihbjddaaZKw8
section
namespace Go.Proofs.Ythnhfkpihbjddaa
open Go.VD
set_option linter.unusedVariables false
set_option linter.unusedSimpArgs false
set_option maxRecDepth 100000
theorem hsum_pure (xn : Bool) (xs : List Nat) (yn : Bool) (ys : List Nat) (hpre : (xs = dg (nv xs) ∧ xs.length ≤ 1000) ∧ ys = dg (nv ys) ∧ ys.length ≤ 1000) : PureJ Try.prog 67 [.agg [.v (.bool xn), .ro xs.length (u32s xs)], .v (.bool yn), .ro ys.length (u32s ys)] (d_ar (okS (iv xn xs + iv yn ys))) := by
  refine pureJ_of_vcx (call := (addPure 52 ent_iadd (addPure 65 ent_icompare (addPure 53 ent_isub (addPure 54 ent_isigned noCalls))))) (lp := fun _ => none) (N := 10) T_ok mixed (addPure_ok ent_iadd_ok (addPure_ok ent_icompare_ok (addPure_ok ent_isub_ok (addPure_ok ent_isigned_ok noCalls_ok)))) Try.func67 rfl (by decide) (by kernel_rfl) (by kernel_rfl) (LpAll.none _) (by (simp [NamelessL, Nameless, d_ar, d_int, u32s_nameless]; done)) (by (simp [NamelessL, Nameless, d_ar, d_int, u32s_nameless]; done)) ?_
  refine of_eq (B := letI z10 := (okS ((iv xn xs) + (iv yn ys))); letI z21 := Prod.snd z10; letI z0 := (D.tup [(D.agg [(D.v (Value.bool (Prod.fst z10))), (D.ro (List.length (Prod.fst z21)) (u32s (Prod.fst z21)))]), (D.v (Value.int IntKind.i64 (Prod.snd z21)))]); letI z1 := (unu (u32s xs)); letI z2 := (unu (u32s ys)); letI z16 := (dg ((nv z1) + (nv z2))); letI z3 := (unu (u32s z16)); letI z17 := (dg ((nv z1) - (nv z2))); letI z4 := (unu (u32s z17)); letI z18 := (dg ((nv z2) - (nv z1))); letI z5 := (unu (u32s z18)); letI z15 := List.length z2; letI z6 := (((u32s ys) = (u32s z2)) ∧ ((List.length ys) = z15)); letI z11 := List.length z1; letI z7 := (((u32s xs) = (u32s z1)) ∧ ((List.length xs) = z11)); letI z8 := ((2 : Nat) ≤ (2 : Nat)); letI z9 := ((True ∧ (True ∧ True)) ∧ (True ∧ True)); letI z12 := ((1 : Nat) < (2 : Nat)); letI z13 := (((2 : Nat) = (2 : Nat)) ∧ z8); letI z14 := (((0 : Nat) < (2 : Nat)) ∧ (IsBool (D.v (Value.bool xn)))); letI z19 := (400000 : Nat); letI z20 := (1000000 : Nat); letI z22 := ((Dig z1) ∧ (Dig z2)); (True ∧ (True ∧ (True ∧ (True ∧ (z14 ∧ (True ∧ (True ∧ (pcond (xn == yn) (True ∧ (True ∧ (z12 ∧ (True ∧ ((z6 ∧ (z7 ∧ ((z11 ≤ z19) ∧ ((z15 ≤ z19) ∧ z22)))) ∧ (((((u32s z16) = (u32s z3)) ∧ ((List.length z16) = (List.length z3))) ∧ ((List.length z3) ≤ z20)) ∧ (True ∧ (True ∧ (z13 ∧ (True ∧ ((z8 ∧ True) ∧ (z9 ∧ ((D.tup [(D.agg [(D.v (Value.bool (sigN yn z3))), (D.ro (List.length (sigL z3)) (u32s (sigL z3)))]), (D.v (Value.int IntKind.i64 (sigE z3)))]) = z0))))))))))))) (True ∧ (z12 ∧ (True ∧ ((z6 ∧ (z7 ∧ (z11 ≤ (1000000000000 : Nat)))) ∧ (True ∧ (pcond (Decidable.decide ((0 : Int) ≤ (cmpL z1 z2))) (True ∧ (z14 ∧ (True ∧ (z12 ∧ (True ∧ ((z6 ∧ (z7 ∧ (((z11 ≤ z19) ∧ ((z15 ≤ z11) ∧ z22)) ∧ ((nv z2) ≤ (nv z1))))) ∧ (((((u32s z17) = (u32s z4)) ∧ ((List.length z17) = (List.length z4))) ∧ ((List.length z4) ≤ z20)) ∧ (True ∧ (True ∧ (z13 ∧ (True ∧ ((Bool.true = Bool.true) ∧ ((z8 ∧ True) ∧ (z9 ∧ ((D.tup [(D.agg [(D.v (Value.bool (sigN xn z4))), (D.ro (List.length (sigL z4)) (u32s (sigL z4)))]), (D.v (Value.int IntKind.i64 (sigE z4)))]) = z0))))))))))))))) (True ∧ (True ∧ (True ∧ (z12 ∧ ((z7 ∧ (z6 ∧ (((z15 ≤ z19) ∧ ((z11 ≤ z15) ∧ ((Dig z2) ∧ (Dig z1)))) ∧ ((nv z1) ≤ (nv z2))))) ∧ (((((u32s z18) = (u32s z5)) ∧ ((List.length z18) = (List.length z5))) ∧ ((List.length z5) ≤ z20)) ∧ (True ∧ (True ∧ (z13 ∧ (True ∧ ((z8 ∧ True) ∧ (z9 ∧ ((D.tup [(D.agg [(D.v (Value.bool (sigN yn z5))), (D.ro (List.length (sigL z5)) (u32s (sigL z5)))]), (D.v (Value.int IntKind.i64 (sigE z5)))]) = z0)))))))))))))))))))))))))))) (by kernel_rfl) ?_
  simp only [true_and, and_true, and_self, IsInt_lit, IsBool_lit, IsStr_lit, Bool.not_eq_true', Bool.not_eq_false', Bool.not_true, Bool.not_false, Int.reduceLE, Int.reduceLT, Int.reduceNeg, Nat.le_refl, Int.le_refl, Nat.reduceLT, Nat.reduceLeDiff, Nat.reduceEqDiff, D.v.injEq, D.tup.injEq, D.agg.injEq, D.ro.injEq, List.cons.injEq, Value.int.injEq, Value.bool.injEq, pcond_true, pcond_false, NamelessL, Nameless, Nat.reduceMul, Nat.reduceAdd, Nat.zero_add, Int.toNat_natCast, unu_u32s]
  obtain ⟨⟨gx, lx⟩, gy, ly⟩ := hpre
  have dx : Dig xs := by rw [gx]; exact dg_dig _
  have dy : Dig ys := by rw [gy]; exact dg_dig _
  have hm : plusM xs ys ≤ 1000 := by unfold plusM; omega
  have hc : cmpL xs ys = cmpN (nv xs) (nv ys) := by rw [gx, gy, cmpL_dg, ← gx, ← gy]
  refine pcond_intro (fun h => ?_) (fun h => ⟨by omega, pcond_intro (fun h2 => ?_) (fun h2 => ?_)⟩)
  · have hlen := dg_length_le (plus_lt dx dy)
    obtain ⟨e1, e2⟩ := isum_same (show xn = yn by simpa using h) (xs := xs) (ys := ys)
    obtain ⟨s1, s2, s3⟩ := sig_ok (neg := yn) (xs := dg (nv xs + nv ys)) (v := iv xn xs + iv yn ys) (by rw [(madeN_dg yn _).1]; exact e1) (by rw [(madeN_dg yn _).2]; exact e2)
    rw [s1, s2, s3]
    exact ⟨⟨by omega, by omega, dx, dy⟩, by omega, ⟨rfl, rfl, rfl⟩, rfl⟩
  · simp only [decide_eq_true_eq, hc] at h2
    have hle : nv ys ≤ nv xs := by unfold cmpN at h2; split at h2 <;> omega
    have hlm := dg_len_mono hle
    rw [← gx, ← gy] at hlm
    have hl2 := dg_len_mono (show nv xs - nv ys ≤ nv xs by omega)
    rw [← gx] at hl2
    obtain ⟨e1, e2⟩ := add_diff (xn := xn) (yn := yn) (by simpa using h) hle
    obtain ⟨s1, s2, s3⟩ := sig_ok e1 e2
    rw [s1, s2, s3]
    exact ⟨⟨⟨by omega, hlm, dx, dy⟩, hle⟩, by omega, ⟨rfl, rfl, rfl⟩, rfl⟩
  · simp only [decide_eq_false_iff_not, hc] at h2
    have hle : nv xs ≤ nv ys := by unfold cmpN at h2; split at h2 <;> (try split at h2) <;> omega
    have hlm := dg_len_mono hle
    rw [← gx, ← gy] at hlm
    have hl2 := dg_len_mono (show nv ys - nv xs ≤ nv ys by omega)
    rw [← gy] at hl2
    obtain ⟨e1, e2⟩ := add_diff (xn := yn) (yn := xn) (by simp at h; exact fun k => h k.symm) hle
    rw [Int.add_comm] at e1 e2
    obtain ⟨s1, s2, s3⟩ := sig_ok e1 e2
    rw [s1, s2, s3]
    exact ⟨⟨⟨by omega, hlm, dy, dx⟩, hle⟩, by omega, ⟨rfl, rfl, rfl⟩, rfl⟩
def ent_hsum : Ent := fun ds => match ds with
  | [.agg [.v (.bool xn), .ro n_xs ys_xs], .v (.bool yn), .ro n_ys ys_ys] => some (d_ar (okS (iv xn (unu ys_xs) + iv yn (unu ys_ys))), (ys_ys = u32s (unu ys_ys) ∧ n_ys = (unu ys_ys).length) ∧ (ys_xs = u32s (unu ys_xs) ∧ n_xs = (unu ys_xs).length) ∧ ((unu ys_xs) = dg (nv (unu ys_xs)) ∧ (unu ys_xs).length ≤ 1000) ∧ (unu ys_ys) = dg (nv (unu ys_ys)) ∧ (unu ys_ys).length ≤ 1000)
  | _ => none
theorem ent_hsum_ok : EntOk Try.prog 67 ent_hsum := by
  intro ds d c h hc; unfold ent_hsum at h; split at h
  · rename_i xn n_xs ys_xs yn n_ys ys_ys; obtain ⟨rfl, rfl⟩ := pair_inj h
    obtain ⟨⟨h1, h2⟩, hc⟩ := hc; subst h2; generalize (unu ys_ys) = ys at *; subst h1
    obtain ⟨⟨h1, h2⟩, hc⟩ := hc; subst h2; generalize (unu ys_xs) = xs at *; subst h1
    exact hsum_pure _ xs _ ys hc
  · cases h
theorem hAdd_pure (xn : Bool) (xs : List Nat) (yn : Bool) (ys : List Nat) (hpre : LenOk xs ∧ LenOk ys) : PureJ Try.prog 29 [.agg [.v (.bool xn), .ro xs.length (u32s xs)], .agg [.v (.bool yn), .ro ys.length (u32s ys)]] (d_ar (arS (validL xn xs && validL yn ys) (iv xn xs + iv yn ys))) := by
  refine pureJ_of_vcpN (call := (addPure 33 ent_iValid (addPure 67 ent_hsum noCalls))) (lp := fun _ => none) (N := 10) T_ok mixed (addPure_ok ent_iValid_ok (addPure_ok ent_hsum_ok noCalls_ok)) Try.func29 rfl (by decide) (by kernel_rfl) (by kernel_rfl) (LpAllP.none _) (by (simp [NamelessL, Nameless, d_ar, d_int, u32s_nameless]; done)) (by (simp [NamelessL, Nameless, d_ar, d_int, u32s_nameless]; done)) ?_
  refine of_eq (B := letI z2 := (arS ((validL xn xs) && (validL yn ys)) ((iv xn xs) + (iv yn ys))); letI z14 := (Prod.fst (Prod.snd z2)); letI z0 := (D.tup [(D.agg [(D.v (Value.bool (Prod.fst z2))), (D.ro (List.length z14) (u32s z14))]), (D.v (Value.int IntKind.i64 (Prod.snd (Prod.snd z2))))]); letI z4 := ((2 : Nat) ≤ (2 : Nat)); letI z10 := (((2 : Nat) = (2 : Nat)) ∧ z4); letI z9 := ((True ∧ (True ∧ True)) ∧ (True ∧ True)); letI z1 := (True ∧ (z10 ∧ (True ∧ ((z4 ∧ True) ∧ (z9 ∧ ((D.tup [(D.agg [(D.v (Value.bool Bool.false)), (D.ro (0 : Nat) ([] : List D))]), (D.v (Value.int IntKind.i64 (1 : Int)))]) = z0)))))); letI z5 := (unu (u32s xs)); letI z6 := (unu (u32s ys)); letI z3 := (okS ((iv xn z5) + (iv yn z6))); letI z11 := List.length z5; letI z7 := (((u32s xs) = (u32s z5)) ∧ ((List.length xs) = z11)); letI z12 := List.length z6; letI z8 := (((u32s ys) = (u32s z6)) ∧ ((List.length ys) = z12)); letI z13 := (Prod.fst (Prod.snd z3)); letI z15 := (1000000000000 : Nat); (True ∧ (True ∧ (True ∧ (True ∧ (z4 ∧ ((z7 ∧ (z11 ≤ z15)) ∧ (True ∧ (True ∧ (pcond (!(validL xn z5)) (True ∧ z1) (z4 ∧ ((z8 ∧ (z12 ≤ z15)) ∧ (True ∧ (True ∧ (pcond (!(validL yn z6)) z1 (z4 ∧ (True ∧ ((((0 : Nat) < (2 : Nat)) ∧ (IsBool (D.v (Value.bool yn)))) ∧ (True ∧ (((1 : Nat) < (2 : Nat)) ∧ ((z8 ∧ (z7 ∧ (((z5 = (dg (nv z5))) ∧ (z11 ≤ (1000 : Nat))) ∧ ((z6 = (dg (nv z6))) ∧ (z12 ≤ (1000 : Nat)))))) ∧ (True ∧ (True ∧ (z10 ∧ (True ∧ ((z4 ∧ True) ∧ (z9 ∧ ((D.tup [(D.agg [(D.v (Value.bool (Prod.fst z3))), (D.ro (List.length z13) (u32s z13))]), (D.v (Value.int IntKind.i64 (Prod.snd (Prod.snd z3))))]) = z0)))))))))))))))))))))))))))) (by kernel_rfl) ?_
  simp only [true_and, and_true, and_self, IsInt_lit, IsBool_lit, IsStr_lit, Bool.not_eq_true', Bool.not_eq_false', Bool.not_true, Bool.not_false, Int.reduceLE, Int.reduceLT, Int.reduceNeg, Nat.le_refl, Int.le_refl, Nat.reduceLT, Nat.reduceLeDiff, Nat.reduceEqDiff, D.v.injEq, D.tup.injEq, D.agg.injEq, D.ro.injEq, List.cons.injEq, Value.int.injEq, Value.bool.injEq, pcond_true, pcond_false, NamelessL, Nameless, Nat.reduceMul, Nat.reduceAdd, Nat.zero_add, Int.toNat_natCast, unu_u32s]
  obtain ⟨⟨lx, dx⟩, ly, dy⟩ := hpre
  refine ⟨by omega, pcond_intro (fun h => ?_) (fun h => ⟨by omega, pcond_intro (fun h2 => ?_) (fun h2 => ?_)⟩)⟩
  · simp only [Bool.not_eq_true'] at h; simp [arS, h, u32s]
  · simp only [Bool.not_eq_true', Bool.not_eq_false'] at h h2; simp [arS, h, h2, u32s]
  · simp only [Bool.not_eq_false'] at h h2
    have gx := (valid_good dx h).1
    have gy := (valid_good dy h2).1
    refine ⟨⟨⟨gx.1, lx⟩, gy.1, ly⟩, ?_⟩
    simp [arS, h, h2]
def ent_hAdd : Ent := fun ds => match ds with
  | [.agg [.v (.bool xn), .ro n_xs ys_xs], .agg [.v (.bool yn), .ro n_ys ys_ys]] => some (d_ar (arS (validL xn (unu ys_xs) && validL yn (unu ys_ys)) (iv xn (unu ys_xs) + iv yn (unu ys_ys))), (ys_ys = u32s (unu ys_ys) ∧ n_ys = (unu ys_ys).length) ∧ (ys_xs = u32s (unu ys_xs) ∧ n_xs = (unu ys_xs).length) ∧ LenOk (unu ys_xs) ∧ LenOk (unu ys_ys))
  | _ => none
theorem ent_hAdd_ok : EntOk Try.prog 29 ent_hAdd := by
  intro ds d c h hc; unfold ent_hAdd at h; split at h
  · rename_i xn n_xs ys_xs yn n_ys ys_ys; obtain ⟨rfl, rfl⟩ := pair_inj h
    obtain ⟨⟨h1, h2⟩, hc⟩ := hc; subst h2; generalize (unu ys_ys) = ys at *; subst h1
    obtain ⟨⟨h1, h2⟩, hc⟩ := hc; subst h2; generalize (unu ys_xs) = xs at *; subst h1
    exact hAdd_pure _ xs _ ys hc
  · cases h
theorem hMul_pure (xn : Bool) (xs : List Nat) (yn : Bool) (ys : List Nat) (hpre : LenOk xs ∧ LenOk ys) : PureJ Try.prog 31 [.agg [.v (.bool xn), .ro xs.length (u32s xs)], .agg [.v (.bool yn), .ro ys.length (u32s ys)]] (d_ar (arS (validL xn xs && validL yn ys) (iv xn xs * iv yn ys))) := by
  refine pureJ_of_vcpN (call := (addPure 33 ent_iValid (addPure 68 ent_imultiply (addPure 54 ent_isigned noCalls)))) (lp := fun _ => none) (N := 10) T_ok mixed (addPure_ok ent_iValid_ok (addPure_ok ent_imultiply_ok (addPure_ok ent_isigned_ok noCalls_ok))) Try.func31 rfl (by decide) (by kernel_rfl) (by kernel_rfl) (LpAllP.none _) (by (simp [NamelessL, Nameless, d_ar, d_int, u32s_nameless]; done)) (by (simp [NamelessL, Nameless, d_ar, d_int, u32s_nameless]; done)) ?_
  refine of_eq (B := letI z3 := (arS ((validL xn xs) && (validL yn ys)) ((iv xn xs) * (iv yn ys))); letI z14 := (Prod.fst (Prod.snd z3)); letI z0 := (D.tup [(D.agg [(D.v (Value.bool (Prod.fst z3))), (D.ro (List.length z14) (u32s z14))]), (D.v (Value.int IntKind.i64 (Prod.snd (Prod.snd z3))))]); letI z5 := (unu (u32s xs)); letI z6 := (unu (u32s ys)); letI z13 := (dg ((nv z5) * (nv z6))); letI z1 := (u32s z13); letI z4 := ((2 : Nat) ≤ (2 : Nat)); letI z10 := (((2 : Nat) = (2 : Nat)) ∧ z4); letI z9 := ((True ∧ (True ∧ True)) ∧ (True ∧ True)); letI z2 := (True ∧ (z10 ∧ (True ∧ ((z4 ∧ True) ∧ (z9 ∧ ((D.tup [(D.agg [(D.v (Value.bool Bool.false)), (D.ro (0 : Nat) ([] : List D))]), (D.v (Value.int IntKind.i64 (1 : Int)))]) = z0)))))); letI z11 := List.length z5; letI z7 := (((u32s xs) = (u32s z5)) ∧ ((List.length xs) = z11)); letI z12 := List.length z6; letI z8 := (((u32s ys) = (u32s z6)) ∧ ((List.length ys) = z12)); letI z15 := ((0 : Nat) < (2 : Nat)); letI z16 := ((1 : Nat) < (2 : Nat)); letI z17 := (List.length (unu z1)); letI z18 := (1000000000000 : Nat); (True ∧ (True ∧ (True ∧ (True ∧ (z4 ∧ ((z7 ∧ (z11 ≤ z18)) ∧ (True ∧ (True ∧ (pcond (!(validL xn z5)) (True ∧ z2) (z4 ∧ ((z8 ∧ (z12 ≤ z18)) ∧ (True ∧ (True ∧ (pcond (!(validL yn z6)) z2 (True ∧ ((z15 ∧ (IsBool (D.v (Value.bool xn)))) ∧ (True ∧ ((z15 ∧ (IsBool (D.v (Value.bool yn)))) ∧ (True ∧ (True ∧ (z16 ∧ (True ∧ (z16 ∧ ((z8 ∧ (z7 ∧ ((z11 ≤ (400000 : Nat)) ∧ ((z12 ≤ (400000 : Nat)) ∧ ((Dig z5) ∧ (Dig z6)))))) ∧ ((((z1 = (u32s (unu z1))) ∧ ((List.length z13) = z17)) ∧ (z17 ≤ (1000000 : Nat))) ∧ (True ∧ (True ∧ (z10 ∧ (True ∧ ((Bool.true = Bool.true) ∧ ((z4 ∧ True) ∧ (z9 ∧ ((D.tup [(D.agg [(D.v (Value.bool (sigN (!(xn == yn)) (unu z1)))), (D.ro (List.length (sigL (unu z1))) (u32s (sigL (unu z1))))]), (D.v (Value.int IntKind.i64 (sigE (unu z1))))]) = z0)))))))))))))))))))))))))))))))))) (by kernel_rfl) ?_
  simp only [true_and, and_true, and_self, IsInt_lit, IsBool_lit, IsStr_lit, Bool.not_eq_true', Bool.not_eq_false', Bool.not_true, Bool.not_false, Int.reduceLE, Int.reduceLT, Int.reduceNeg, Nat.le_refl, Int.le_refl, Nat.reduceLT, Nat.reduceLeDiff, Nat.reduceEqDiff, D.v.injEq, D.tup.injEq, D.agg.injEq, D.ro.injEq, List.cons.injEq, Value.int.injEq, Value.bool.injEq, pcond_true, pcond_false, NamelessL, Nameless, Nat.reduceMul, Nat.reduceAdd, Nat.zero_add, Int.toNat_natCast, unu_u32s]
  obtain ⟨⟨lx, dx⟩, ly, dy⟩ := hpre
  refine ⟨by omega, pcond_intro (fun h => ?_) (fun h => ⟨by omega, pcond_intro (fun h2 => ?_) (fun h2 => ?_)⟩)⟩
  · simp only [Bool.not_eq_true'] at h; simp [arS, h, u32s]
  · simp only [Bool.not_eq_true', Bool.not_eq_false'] at h h2; simp [arS, h, h2, u32s]
  · simp only [Bool.not_eq_false'] at h h2
    have gx := (valid_good dx h).1
    have gy := (valid_good dy h2).1
    have hl := dg_mul_len dx dy
    obtain ⟨m1, m2⟩ := mul_iv xn yn xs ys
    obtain ⟨s1, s2, s3⟩ := sig_ok m1 m2
    refine ⟨⟨by omega, by omega, dx, dy⟩, by omega, ?_⟩
    rw [show (!xn == yn) = (xn != yn) from rfl, s1, s2, s3]
    simp [arS, h, h2]
def ent_hMul : Ent := fun ds => match ds with
  | [.agg [.v (.bool xn), .ro n_xs ys_xs], .agg [.v (.bool yn), .ro n_ys ys_ys]] => some (d_ar (arS (validL xn (unu ys_xs) && validL yn (unu ys_ys)) (iv xn (unu ys_xs) * iv yn (unu ys_ys))), (ys_ys = u32s (unu ys_ys) ∧ n_ys = (unu ys_ys).length) ∧ (ys_xs = u32s (unu ys_xs) ∧ n_xs = (unu ys_xs).length) ∧ LenOk (unu ys_xs) ∧ LenOk (unu ys_ys))
  | _ => none
theorem ent_hMul_ok : EntOk Try.prog 31 ent_hMul := by
  intro ds d c h hc; unfold ent_hMul at h; split at h
  · rename_i xn n_xs ys_xs yn n_ys ys_ys; obtain ⟨rfl, rfl⟩ := pair_inj h
    obtain ⟨⟨h1, h2⟩, hc⟩ := hc; subst h2; generalize (unu ys_ys) = ys at *; subst h1
    obtain ⟨⟨h1, h2⟩, hc⟩ := hc; subst h2; generalize (unu ys_xs) = xs at *; subst h1
    exact hMul_pure _ xs _ ys hc
  · cases h
theorem gAdd_pure (xn : Bool) (xs : List Nat) (yn : Bool) (ys : List Nat) (hpre : LenOk xs ∧ LenOk ys) : PureJ Try.prog 30 [.agg [.v (.bool xn), .ro xs.length (u32s xs)], .agg [.v (.bool yn), .ro ys.length (u32s ys)]] (d_ar (arS (validL xn xs && validL yn ys) (iv xn xs + iv yn ys))) := by
  refine pureJ_of_vcpN (call := (addPure 21 ent_Valid (addPure 61 ent_cmpr (addPure 57 ent_plus (addPure 58 ent_minus (addPure 60 ent_made (addPure 59 ent_gresult noCalls))))))) (lp := fun _ => none) (N := 10) T_ok mixed (addPure_ok ent_Valid_ok (addPure_ok ent_cmpr_ok (addPure_ok ent_plus_ok (addPure_ok ent_minus_ok (addPure_ok ent_made_ok (addPure_ok ent_gresult_ok noCalls_ok)))))) Try.func30 rfl (by decide) (by kernel_rfl) (by kernel_rfl) (LpAllP.none _) (by (simp [NamelessL, Nameless, d_ar, d_int, u32s_nameless]; done)) (by (simp [NamelessL, Nameless, d_ar, d_int, u32s_nameless]; done)) ?_
  refine of_eq (B := letI z10 := (arS ((validL xn xs) && (validL yn ys)) ((iv xn xs) + (iv yn ys))); letI z33 := Prod.snd z10; letI z0 := (D.tup [(D.agg [(D.v (Value.bool (Prod.fst z10))), (D.ro (List.length (Prod.fst z33)) (u32s (Prod.fst z33)))]), (D.v (Value.int IntKind.i64 (Prod.snd z33)))]); letI z1 := (unu (u32s xs)); letI z2 := (unu (u32s ys)); letI z25 := (dg ((nv z1) - (nv z2))); letI z3 := (unu (u32s z25)); letI z26 := (dg ((nv z2) - (nv z1))); letI z4 := (unu (u32s z26)); letI z37 := (u32s (plusL z1 z2)); letI z5 := (unu z37); letI z9 := ((2 : Nat) ≤ (2 : Nat)); letI z17 := (((2 : Nat) = (2 : Nat)) ∧ z9); letI z12 := ((True ∧ (True ∧ True)) ∧ (True ∧ True)); letI z6 := (True ∧ (z17 ∧ (True ∧ ((z9 ∧ True) ∧ (z12 ∧ ((D.tup [(D.agg [(D.v (Value.bool Bool.false)), (D.ro (0 : Nat) ([] : List D))]), (D.v (Value.int IntKind.i64 (1 : Int)))]) = z0)))))); letI z18 := List.length z1; letI z7 := (((u32s xs) = (u32s z1)) ∧ ((List.length xs) = z18)); letI z19 := List.length z2; letI z8 := (((u32s ys) = (u32s z2)) ∧ ((List.length ys) = z19)); letI z11 := ((1 : Nat) < (2 : Nat)); letI z21 := (unu (u32s (trimL z5))); letI z13 := (resG (madeN xn z5) z21); letI z22 := (unu (u32s (trimL z3))); letI z14 := (resG (madeN xn z3) z22); letI z23 := (unu (u32s (trimL z4))); letI z15 := (resG (madeN yn z4) z23); letI z35 := ((0 : Nat) < (2 : Nat)); letI z16 := (z35 ∧ (IsBool (D.v (Value.bool xn)))); letI z20 := (1000000 : Nat); letI z24 := (z35 ∧ (IsBool (D.v (Value.bool yn)))); letI z27 := Bool.true = Bool.true; letI z36 := (1000000000000 : Nat); letI z28 := (z7 ∧ (z18 ≤ z36)); letI z29 := (400000 : Nat); letI z30 := Prod.snd z13; letI z31 := Prod.snd z14; letI z32 := Prod.snd z15; letI z34 := ((Dig z1) ∧ (Dig z2)); (True ∧ (True ∧ (True ∧ (True ∧ (z9 ∧ (z28 ∧ (True ∧ (True ∧ (pcond (!(validL xn z1)) (True ∧ z6) (z9 ∧ ((z8 ∧ (z19 ≤ z36)) ∧ (True ∧ (True ∧ (pcond (!(validL yn z2)) z6 (True ∧ (z16 ∧ (True ∧ (z24 ∧ (True ∧ (pcond (xn == yn) (True ∧ (z16 ∧ (True ∧ (z11 ∧ (True ∧ (z11 ∧ ((z8 ∧ (z7 ∧ ((z18 ≤ z29) ∧ ((z19 ≤ z29) ∧ z34)))) ∧ ((((z37 = (u32s z5)) ∧ ((List.length (plusL z1 z2)) = (List.length z5))) ∧ ((List.length z5) ≤ z20)) ∧ (((((u32s (trimL z5)) = (u32s z21)) ∧ ((List.length (trimL z5)) = (List.length z21))) ∧ ((List.length z21) ≤ z20)) ∧ (True ∧ (True ∧ (z17 ∧ (True ∧ (z27 ∧ ((z9 ∧ True) ∧ (z12 ∧ ((D.tup [(D.agg [(D.v (Value.bool (Prod.fst z13))), (D.ro (List.length (Prod.fst z30)) (u32s (Prod.fst z30)))]), (D.v (Value.int IntKind.i64 (Prod.snd z30)))]) = z0))))))))))))))))) (True ∧ (z11 ∧ (True ∧ (z11 ∧ ((z8 ∧ z28) ∧ (True ∧ (pcond (Decidable.decide ((0 : Int) ≤ (cmpL z1 z2))) (True ∧ (z16 ∧ (True ∧ (z11 ∧ (True ∧ (z11 ∧ ((z8 ∧ (z7 ∧ (((z18 ≤ z29) ∧ ((z19 ≤ z18) ∧ z34)) ∧ ((nv z2) ≤ (nv z1))))) ∧ (((((u32s z25) = (u32s z3)) ∧ ((List.length z25) = (List.length z3))) ∧ ((List.length z3) ≤ z20)) ∧ (((((u32s (trimL z3)) = (u32s z22)) ∧ ((List.length (trimL z3)) = (List.length z22))) ∧ ((List.length z22) ≤ z20)) ∧ (True ∧ (True ∧ (z17 ∧ (True ∧ (z27 ∧ ((z9 ∧ True) ∧ (z12 ∧ ((D.tup [(D.agg [(D.v (Value.bool (Prod.fst z14))), (D.ro (List.length (Prod.fst z31)) (u32s (Prod.fst z31)))]), (D.v (Value.int IntKind.i64 (Prod.snd z31)))]) = z0))))))))))))))))) (True ∧ (z24 ∧ (True ∧ (z11 ∧ (True ∧ (z11 ∧ ((z7 ∧ (z8 ∧ (((z19 ≤ z29) ∧ ((z18 ≤ z19) ∧ ((Dig z2) ∧ (Dig z1)))) ∧ ((nv z1) ≤ (nv z2))))) ∧ (((((u32s z26) = (u32s z4)) ∧ ((List.length z26) = (List.length z4))) ∧ ((List.length z4) ≤ z20)) ∧ (((((u32s (trimL z4)) = (u32s z23)) ∧ ((List.length (trimL z4)) = (List.length z23))) ∧ ((List.length z23) ≤ z20)) ∧ (True ∧ (True ∧ (z17 ∧ (True ∧ (z27 ∧ ((z9 ∧ True) ∧ (z12 ∧ ((D.tup [(D.agg [(D.v (Value.bool (Prod.fst z15))), (D.ro (List.length (Prod.fst z32)) (u32s (Prod.fst z32)))]), (D.v (Value.int IntKind.i64 (Prod.snd z32)))]) = z0))))))))))))))))))))))))))))))))))))))))))))) (by kernel_rfl) ?_
  simp only [true_and, and_true, and_self, IsInt_lit, IsBool_lit, IsStr_lit, Bool.not_eq_true', Bool.not_eq_false', Bool.not_true, Bool.not_false, Int.reduceLE, Int.reduceLT, Int.reduceNeg, Nat.le_refl, Int.le_refl, Nat.reduceLT, Nat.reduceLeDiff, Nat.reduceEqDiff, D.v.injEq, D.tup.injEq, D.agg.injEq, D.ro.injEq, List.cons.injEq, Value.int.injEq, Value.bool.injEq, pcond_true, pcond_false, NamelessL, Nameless, Nat.reduceMul, Nat.reduceAdd, Nat.zero_add, Int.toNat_natCast, unu_u32s]
  obtain ⟨⟨lx, dx⟩, ly, dy⟩ := hpre
  refine ⟨by omega, pcond_intro (fun h => ?_) (fun h => ⟨by omega, pcond_intro (fun h2 => ?_) (fun h2 => ?_)⟩)⟩
  · simp only [Bool.not_eq_true'] at h; simp [arS, h, u32s]
  · simp only [Bool.not_eq_true', Bool.not_eq_false'] at h h2; simp [arS, h, h2, u32s]
  · simp only [Bool.not_eq_false'] at h h2
    have gx := (valid_good dx h).1
    have gy := (valid_good dy h2).1
    have hpl := plusL_len xs ys
    have hm : plusM xs ys ≤ 1000 := by unfold plusM; omega
    have hc : cmpL xs ys = cmpN (nv xs) (nv ys) := by rw [gx.1, gy.1, cmpL_dg, ← gx.1, ← gy.1]
    have tl : ∀ l : List Nat, (trimL l).length ≤ l.length := fun l => by rw [trimL_length]; exact tn_le _ _
    have lx2 := congrArg List.length gx.1
    have ly2 := congrArg List.length gy.1
    have ar : arS (validL xn xs && validL yn ys) (iv xn xs + iv yn ys) = okS (iv xn xs + iv yn ys) := by simp [arS, h, h2]
    rw [ar]
    refine pcond_intro (fun h3 => ?_) (fun h3 => ⟨by omega, pcond_intro (fun h4 => ?_) (fun h4 => ?_)⟩)
    · obtain ⟨m1, m2⟩ := add_same (by simpa using h3) dx dy
      rw [resG_ok m1 m2]
      have := tl (plusL xs ys)
      exact ⟨⟨by omega, by omega, dx, dy⟩, by omega, by omega, ⟨rfl, rfl, rfl⟩, rfl⟩
    · simp only [decide_eq_true_eq, hc] at h4
      have hle : nv ys ≤ nv xs := by unfold cmpN at h4; split at h4 <;> omega
      have hlm := dg_len_mono hle
      rw [← gx.1, ← gy.1] at hlm
      have hl2 := dg_len_mono (show nv xs - nv ys ≤ nv xs by omega)
      rw [← gx.1] at hl2
      obtain ⟨m1, m2⟩ := add_diff (xn := xn) (yn := yn) (by simpa using h3) hle
      rw [resG_ok m1 m2]
      have := tl (dg (nv xs - nv ys))
      exact ⟨⟨⟨by omega, hlm, dx, dy⟩, hle⟩, by omega, by omega, ⟨rfl, rfl, rfl⟩, rfl⟩
    · simp only [decide_eq_false_iff_not, hc] at h4
      have hle : nv xs ≤ nv ys := by unfold cmpN at h4; split at h4 <;> (try split at h4) <;> omega
      have hlm := dg_len_mono hle
      rw [← gx.1, ← gy.1] at hlm
      have hl2 := dg_len_mono (show nv ys - nv xs ≤ nv ys by omega)
      rw [← gy.1] at hl2
      obtain ⟨m1, m2⟩ := add_diff (xn := yn) (yn := xn) (by simp at h3; exact fun k => h3 k.symm) hle
      rw [Int.add_comm] at m1 m2
      rw [resG_ok m1 m2]
      have := tl (dg (nv ys - nv xs))
      exact ⟨⟨⟨by omega, hlm, dy, dx⟩, hle⟩, by omega, by omega, ⟨rfl, rfl, rfl⟩, rfl⟩
def ent_gAdd : Ent := fun ds => match ds with
  | [.agg [.v (.bool xn), .ro n_xs ys_xs], .agg [.v (.bool yn), .ro n_ys ys_ys]] => some (d_ar (arS (validL xn (unu ys_xs) && validL yn (unu ys_ys)) (iv xn (unu ys_xs) + iv yn (unu ys_ys))), (ys_ys = u32s (unu ys_ys) ∧ n_ys = (unu ys_ys).length) ∧ (ys_xs = u32s (unu ys_xs) ∧ n_xs = (unu ys_xs).length) ∧ LenOk (unu ys_xs) ∧ LenOk (unu ys_ys))
  | _ => none
theorem ent_gAdd_ok : EntOk Try.prog 30 ent_gAdd := by
  intro ds d c h hc; unfold ent_gAdd at h; split at h
  · rename_i xn n_xs ys_xs yn n_ys ys_ys; obtain ⟨rfl, rfl⟩ := pair_inj h
    obtain ⟨⟨h1, h2⟩, hc⟩ := hc; subst h2; generalize (unu ys_ys) = ys at *; subst h1
    obtain ⟨⟨h1, h2⟩, hc⟩ := hc; subst h2; generalize (unu ys_xs) = xs at *; subst h1
    exact gAdd_pure _ xs _ ys hc
  · cases h
theorem gMul_pure (xn : Bool) (xs : List Nat) (yn : Bool) (ys : List Nat) (hpre : LenOk xs ∧ LenOk ys) : PureJ Try.prog 32 [.agg [.v (.bool xn), .ro xs.length (u32s xs)], .agg [.v (.bool yn), .ro ys.length (u32s ys)]] (d_ar (arS (validL xn xs && validL yn ys) (iv xn xs * iv yn ys))) := by
  refine pureJ_of_vcpN (call := (addPure 21 ent_Valid (addPure 69 ent_times (addPure 60 ent_made (addPure 59 ent_gresult noCalls))))) (lp := fun _ => none) (N := 10) T_ok mixed (addPure_ok ent_Valid_ok (addPure_ok ent_times_ok (addPure_ok ent_made_ok (addPure_ok ent_gresult_ok noCalls_ok)))) Try.func32 rfl (by decide) (by kernel_rfl) (by kernel_rfl) (LpAllP.none _) (by (simp [NamelessL, Nameless, d_ar, d_int, u32s_nameless]; done)) (by (simp [NamelessL, Nameless, d_ar, d_int, u32s_nameless]; done)) ?_
  refine of_eq (B := letI z5 := (unu (u32s xs)); letI z6 := (unu (u32s ys)); letI z12 := (dg ((nv z5) * (nv z6))); letI z0 := (unu (u32s z12)); letI z3 := (arS ((validL xn xs) && (validL yn ys)) ((iv xn xs) * (iv yn ys))); letI z17 := (Prod.fst (Prod.snd z3)); letI z1 := (D.tup [(D.agg [(D.v (Value.bool (Prod.fst z3))), (D.ro (List.length z17) (u32s z17))]), (D.v (Value.int IntKind.i64 (Prod.snd (Prod.snd z3))))]); letI z7 := ((2 : Nat) ≤ (2 : Nat)); letI z13 := (((2 : Nat) = (2 : Nat)) ∧ z7); letI z11 := ((True ∧ (True ∧ True)) ∧ (True ∧ True)); letI z2 := (True ∧ (z13 ∧ (True ∧ ((z7 ∧ True) ∧ (z11 ∧ ((D.tup [(D.agg [(D.v (Value.bool Bool.false)), (D.ro (0 : Nat) ([] : List D))]), (D.v (Value.int IntKind.i64 (1 : Int)))]) = z1)))))); letI z10 := (unu (u32s (trimL z0))); letI z4 := (resG (madeN (!(xn == yn)) z0) z10); letI z14 := List.length z5; letI z8 := (((u32s xs) = (u32s z5)) ∧ ((List.length xs) = z14)); letI z15 := List.length z6; letI z9 := (((u32s ys) = (u32s z6)) ∧ ((List.length ys) = z15)); letI z16 := (Prod.fst (Prod.snd z4)); letI z18 := ((0 : Nat) < (2 : Nat)); letI z19 := ((1 : Nat) < (2 : Nat)); letI z20 := (1000000000000 : Nat); (True ∧ (True ∧ (True ∧ (True ∧ (z7 ∧ ((z8 ∧ (z14 ≤ z20)) ∧ (True ∧ (True ∧ (pcond (!(validL xn z5)) (True ∧ z2) (z7 ∧ ((z9 ∧ (z15 ≤ z20)) ∧ (True ∧ (True ∧ (pcond (!(validL yn z6)) z2 (True ∧ ((z18 ∧ (IsBool (D.v (Value.bool xn)))) ∧ (True ∧ ((z18 ∧ (IsBool (D.v (Value.bool yn)))) ∧ (True ∧ (True ∧ (z19 ∧ (True ∧ (z19 ∧ ((z9 ∧ (z8 ∧ ((z14 ≤ (400000 : Nat)) ∧ ((z15 ≤ (400000 : Nat)) ∧ ((Dig z5) ∧ (Dig z6)))))) ∧ (((((u32s z12) = (u32s z0)) ∧ ((List.length z12) = (List.length z0))) ∧ ((List.length z0) ≤ (1000000 : Nat))) ∧ (((((u32s (trimL z0)) = (u32s z10)) ∧ ((List.length (trimL z0)) = (List.length z10))) ∧ ((List.length z10) ≤ (1000000 : Nat))) ∧ (True ∧ (True ∧ (z13 ∧ (True ∧ ((Bool.true = Bool.true) ∧ ((z7 ∧ True) ∧ (z11 ∧ ((D.tup [(D.agg [(D.v (Value.bool (Prod.fst z4))), (D.ro (List.length z16) (u32s z16))]), (D.v (Value.int IntKind.i64 (Prod.snd (Prod.snd z4))))]) = z1))))))))))))))))))))))))))))))))))) (by kernel_rfl) ?_
  simp only [true_and, and_true, and_self, IsInt_lit, IsBool_lit, IsStr_lit, Bool.not_eq_true', Bool.not_eq_false', Bool.not_true, Bool.not_false, Int.reduceLE, Int.reduceLT, Int.reduceNeg, Nat.le_refl, Int.le_refl, Nat.reduceLT, Nat.reduceLeDiff, Nat.reduceEqDiff, D.v.injEq, D.tup.injEq, D.agg.injEq, D.ro.injEq, List.cons.injEq, Value.int.injEq, Value.bool.injEq, pcond_true, pcond_false, NamelessL, Nameless, Nat.reduceMul, Nat.reduceAdd, Nat.zero_add, Int.toNat_natCast, unu_u32s]
  obtain ⟨⟨lx, dx⟩, ly, dy⟩ := hpre
  refine ⟨by omega, pcond_intro (fun h => ?_) (fun h => ⟨by omega, pcond_intro (fun h2 => ?_) (fun h2 => ?_)⟩)⟩
  · simp only [Bool.not_eq_true'] at h; simp [arS, h, u32s]
  · simp only [Bool.not_eq_true', Bool.not_eq_false'] at h h2; simp [arS, h, h2, u32s]
  · simp only [Bool.not_eq_false'] at h h2
    have gx := (valid_good dx h).1
    have gy := (valid_good dy h2).1
    have hl := dg_mul_len dx dy
    have tl : (trimL (dg (nv xs * nv ys))).length ≤ (dg (nv xs * nv ys)).length := by rw [trimL_length]; exact tn_le _ _
    obtain ⟨m1, m2⟩ := mul_iv xn yn xs ys
    rw [show (!xn == yn) = (xn != yn) from rfl, resG_ok m1 m2]
    refine ⟨⟨by omega, by omega, dx, dy⟩, by omega, by omega, ?_⟩
    simp [arS, h, h2]
def ent_gMul : Ent := fun ds => match ds with
  | [.agg [.v (.bool xn), .ro n_xs ys_xs], .agg [.v (.bool yn), .ro n_ys ys_ys]] => some (d_ar (arS (validL xn (unu ys_xs) && validL yn (unu ys_ys)) (iv xn (unu ys_xs) * iv yn (unu ys_ys))), (ys_ys = u32s (unu ys_ys) ∧ n_ys = (unu ys_ys).length) ∧ (ys_xs = u32s (unu ys_xs) ∧ n_xs = (unu ys_xs).length) ∧ LenOk (unu ys_xs) ∧ LenOk (unu ys_ys))
  | _ => none
theorem ent_gMul_ok : EntOk Try.prog 32 ent_gMul := by
  intro ds d c h hc; unfold ent_gMul at h; split at h
  · rename_i xn n_xs ys_xs yn n_ys ys_ys; obtain ⟨rfl, rfl⟩ := pair_inj h
    obtain ⟨⟨h1, h2⟩, hc⟩ := hc; subst h2; generalize (unu ys_ys) = ys at *; subst h1
    obtain ⟨⟨h1, h2⟩, hc⟩ := hc; subst h2; generalize (unu ys_xs) = xs at *; subst h1
    exact gMul_pure _ xs _ ys hc
  · cases h
end Go.Proofs.Ythnhfkpihbjddaa
end
section
namespace Go.Proofs.Ythnhfkpihbjddaa
open Go.VD
set_option linter.unusedVariables false
set_option linter.unusedSimpArgs false
set_option maxRecDepth 100000
theorem cmpTop_self (xs : List Nat) : ∀ n, cmpTop xs xs n = 0
  | 0 => rfl
  | n + 1 => by unfold cmpTop; rw [if_neg (by omega), if_neg (by omega), cmpTop_self xs n]
theorem cmpL_self (xs : List Nat) : cmpL xs xs = 0 := by
  unfold cmpL; rw [if_neg (by simp)]; exact cmpTop_self xs _
theorem gSame_pure (xn : Bool) (xs : List Nat) (yn : Bool) (ys : List Nat) (hpre : xs.length ≤ 1000) : PureJ Try.prog 16 [.agg [.v (.bool xn), .ro xs.length (u32s xs)], .agg [.v (.bool yn), .ro ys.length (u32s ys)]] (.v (.bool ((xn == yn) && (cmpL xs ys == 0)))) := by
  refine pureJ_of_vcx (call := (addPure 61 ent_cmpr noCalls)) (lp := fun _ => none) (N := 10) T_ok mixed (addPure_ok ent_cmpr_ok noCalls_ok) Try.func16 rfl (by decide) (by kernel_rfl) (by kernel_rfl) (LpAll.none _) (by first | trivial | (simp only [NamelessL, Nameless, and_self, and_true, true_and]; done) | (simp [NamelessL, Nameless, u32s_nameless, namelessL_ints]; done)) (by first | trivial | (simp only [NamelessL, Nameless, and_self, and_true, true_and]; done) | (simp [NamelessL, Nameless, u32s_nameless, namelessL_ints]; done)) ?_
  refine of_eq (B := letI z0 := (D.v (Value.bool ((xn == yn) && ((cmpL xs ys) == (0 : Int))))); letI z1 := (unu (u32s xs)); letI z2 := (unu (u32s ys)); letI z3 := ((0 : Nat) < (2 : Nat)); letI z4 := ((1 : Nat) < (2 : Nat)); (True ∧ (True ∧ (True ∧ (True ∧ ((z3 ∧ (IsBool (D.v (Value.bool xn)))) ∧ (True ∧ ((z3 ∧ (IsBool (D.v (Value.bool yn)))) ∧ (True ∧ (True ∧ (pcond (xn == yn) (True ∧ (z4 ∧ (True ∧ (z4 ∧ (((((u32s ys) = (u32s z2)) ∧ ((List.length ys) = (List.length z2))) ∧ ((((u32s xs) = (u32s z1)) ∧ ((List.length xs) = (List.length z1))) ∧ ((List.length z1) ≤ (1000000000000 : Nat)))) ∧ (True ∧ (True ∧ (True ∧ (True ∧ (True ∧ ((D.v (Value.bool ((cmpL z1 z2) == (0 : Int)))) = z0))))))))))) (True ∧ (True ∧ (True ∧ (True ∧ ((D.v (Value.bool Bool.false)) = z0)))))))))))))))) (by kernel_rfl) ?_
  simp only [true_and, and_true, and_self, IsInt_lit, IsBool_lit, IsStr_lit, Bool.not_eq_true', Bool.not_eq_false', Bool.not_true, Bool.not_false, Int.reduceLE, Int.reduceLT, Int.reduceNeg, Nat.le_refl, Int.le_refl, Nat.reduceLT, Nat.reduceLeDiff, Nat.reduceEqDiff, D.v.injEq, D.tup.injEq, D.agg.injEq, D.ro.injEq, List.cons.injEq, Value.int.injEq, Value.bool.injEq, pcond_true, pcond_false, NamelessL, Nameless, Nat.reduceMul, Nat.reduceAdd, Nat.zero_add, Int.toNat_natCast, unu_u32s]
  refine pcond_intro (fun h => ?_) (fun h => ?_)
  · simp [h]; omega
  · simp [h]
def ent_gSame : Ent := fun ds => match ds with
  | [.agg [.v (.bool xn), .ro n_xs ys_xs], .agg [.v (.bool yn), .ro n_ys ys_ys]] => some (.v (.bool ((xn == yn) && (cmpL (unu ys_xs) (unu ys_ys) == 0))), (ys_ys = u32s (unu ys_ys) ∧ n_ys = (unu ys_ys).length) ∧ (ys_xs = u32s (unu ys_xs) ∧ n_xs = (unu ys_xs).length) ∧ (unu ys_xs).length ≤ 1000)
  | _ => none
theorem ent_gSame_ok : EntOk Try.prog 16 ent_gSame := by
  intro ds d c h hc; unfold ent_gSame at h; split at h
  · rename_i xn n_xs ys_xs yn n_ys ys_ys; obtain ⟨rfl, rfl⟩ := pair_inj h
    obtain ⟨⟨h1, h2⟩, hc⟩ := hc; subst h2; generalize (unu ys_ys) = ys at *; subst h1
    obtain ⟨⟨h1, h2⟩, hc⟩ := hc; subst h2; generalize (unu ys_xs) = xs at *; subst h1
    exact gSame_pure _ xs _ ys hc
  · cases h
theorem gLarge_pure (xn : Bool) (xs : List Nat) (yn : Bool) (ys : List Nat) : PureJ Try.prog 12 [.ro 2 [.v (.bool xn), .ro xs.length (u32s xs), .v (.bool yn), .ro ys.length (u32s ys)]] (.v (.bool (decide (40 < xs.length) || decide (40 < ys.length)))) := by
  refine pureJ_of_vcx (call := noCalls) (lp := fun _ => none) (N := 4) T_ok mixed noCalls_ok Try.func12 rfl (by decide) (by kernel_rfl) (by kernel_rfl) (LpAll.none _) (by first | trivial | (simp only [NamelessL, Nameless, and_self, and_true, true_and]; done) | (simp [NamelessL, Nameless, u32s_nameless, namelessL_ints]; done)) (by first | trivial | (simp only [NamelessL, Nameless, and_self, and_true, true_and]; done) | (simp [NamelessL, Nameless, u32s_nameless, namelessL_ints]; done)) ?_
  refine of_eq (B := letI z0 := (D.v (Value.bool ((Decidable.decide ((40 : Nat) < (List.length xs))) || (Decidable.decide ((40 : Nat) < (List.length ys)))))); letI z1 := (True ∧ (True ∧ (True ∧ ((D.v (Value.bool Bool.true)) = z0)))); (True ∧ (True ∧ (True ∧ (True ∧ (True ∧ (True ∧ (True ∧ (True ∧ ((((0 : Int) ≤ (0 : Int)) ∧ ((0 : Int) < (2 : Int))) ∧ (True ∧ (((1 : Nat) < (4 : Nat)) ∧ (True ∧ (True ∧ (pcond (Decidable.decide ((40 : Int) < (((List.length xs) : Nat) : Int))) z1 (True ∧ (True ∧ (True ∧ (True ∧ (True ∧ (True ∧ (True ∧ (True ∧ (True ∧ ((((0 : Int) ≤ (1 : Int)) ∧ ((1 : Int) < (2 : Int))) ∧ (True ∧ (((3 : Nat) < (4 : Nat)) ∧ (True ∧ (True ∧ (pcond (Decidable.decide ((40 : Int) < (((List.length ys) : Nat) : Int))) z1 (True ∧ (True ∧ (True ∧ (True ∧ (True ∧ (True ∧ (True ∧ (True ∧ (True ∧ (True ∧ ((D.v (Value.bool Bool.false)) = z0))))))))))))))))))))))))))))))))))))))))) (by kernel_rfl) ?_
  simp only [true_and, and_true, and_self, IsInt_lit, IsBool_lit, IsStr_lit, Bool.not_eq_true', Bool.not_eq_false', Bool.not_true, Bool.not_false, Int.reduceLE, Int.reduceLT, Int.reduceNeg, Nat.le_refl, Int.le_refl, Nat.reduceLT, Nat.reduceLeDiff, Nat.reduceEqDiff, D.v.injEq, D.tup.injEq, D.agg.injEq, D.ro.injEq, List.cons.injEq, Value.int.injEq, Value.bool.injEq, pcond_true, pcond_false, NamelessL, Nameless, Nat.reduceMul, Nat.reduceAdd, Nat.zero_add, Int.toNat_natCast, unu_u32s]
  have e : ∀ n : Nat, decide ((40 : Int) < (n : Int)) = decide (40 < n) := fun n => by rw [decide_eq_decide]; omega
  rw [e, e]
  refine pcond_intro (fun h => ?_) (fun h => pcond_intro (fun h2 => ?_) (fun h2 => ?_)) <;> simp [*]
def ent_gLarge : Ent := fun ds => match ds with
  | [.ro 2 [.v (.bool xn), .ro n_xs ys_xs, .v (.bool yn), .ro n_ys ys_ys]] => some (.v (.bool (decide (40 < (unu ys_xs).length) || decide (40 < (unu ys_ys).length))), (ys_ys = u32s (unu ys_ys) ∧ n_ys = (unu ys_ys).length) ∧ (ys_xs = u32s (unu ys_xs) ∧ n_xs = (unu ys_xs).length) ∧ True)
  | _ => none
theorem ent_gLarge_ok : EntOk Try.prog 12 ent_gLarge := by
  intro ds d c h hc; unfold ent_gLarge at h; split at h
  · rename_i xn n_xs ys_xs yn n_ys ys_ys; obtain ⟨rfl, rfl⟩ := pair_inj h
    obtain ⟨⟨h1, h2⟩, hc⟩ := hc; subst h2; generalize (unu ys_ys) = ys at *; subst h1
    obtain ⟨⟨h1, h2⟩, hc⟩ := hc; subst h2; generalize (unu ys_xs) = xs at *; subst h1
    exact gLarge_pure _ xs _ ys
  · cases h
theorem lsame_pure (xn : Bool) (xs : List Nat) (e : Int) (yn : Bool) (ys : List Nat) (f : Int) (hpre : xs.length ≤ 1000) : PureJ Try.prog 15 [.agg [.v (.bool xn), .ro xs.length (u32s xs)], .v (.int .i64 e), .agg [.v (.bool yn), .ro ys.length (u32s ys)], .v (.int .i64 f)] (.v (.bool ((e == f) && ((xn == yn) && (cmpL xs ys == 0))))) := by
  refine pureJ_of_vcx (call := (addPure 16 ent_gSame noCalls)) (lp := fun _ => none) (N := 10) T_ok mixed (addPure_ok ent_gSame_ok noCalls_ok) Try.func15 rfl (by decide) (by kernel_rfl) (by kernel_rfl) (LpAll.none _) (by first | trivial | (simp only [NamelessL, Nameless, and_self, and_true, true_and]; done) | (simp [NamelessL, Nameless, u32s_nameless, namelessL_ints]; done)) (by first | trivial | (simp only [NamelessL, Nameless, and_self, and_true, true_and]; done) | (simp [NamelessL, Nameless, u32s_nameless, namelessL_ints]; done)) ?_
  refine of_eq (B := letI z0 := (D.v (Value.bool ((e == f) && ((xn == yn) && ((cmpL xs ys) == (0 : Int)))))); letI z1 := (unu (u32s xs)); letI z2 := (unu (u32s ys)); letI z3 := ((2 : Nat) ≤ (2 : Nat)); (True ∧ (True ∧ (True ∧ (True ∧ (True ∧ (True ∧ (True ∧ (pcond (e == f) (z3 ∧ (z3 ∧ (((((u32s ys) = (u32s z2)) ∧ ((List.length ys) = (List.length z2))) ∧ ((((u32s xs) = (u32s z1)) ∧ ((List.length xs) = (List.length z1))) ∧ ((List.length z1) ≤ (1000 : Nat)))) ∧ (True ∧ (True ∧ (True ∧ (True ∧ ((D.v (Value.bool ((xn == yn) && ((cmpL z1 z2) == (0 : Int))))) = z0)))))))) (True ∧ (True ∧ (True ∧ (True ∧ ((D.v (Value.bool Bool.false)) = z0)))))))))))))) (by kernel_rfl) ?_
  simp only [true_and, and_true, and_self, IsInt_lit, IsBool_lit, IsStr_lit, Bool.not_eq_true', Bool.not_eq_false', Bool.not_true, Bool.not_false, Int.reduceLE, Int.reduceLT, Int.reduceNeg, Nat.le_refl, Int.le_refl, Nat.reduceLT, Nat.reduceLeDiff, Nat.reduceEqDiff, D.v.injEq, D.tup.injEq, D.agg.injEq, D.ro.injEq, List.cons.injEq, Value.int.injEq, Value.bool.injEq, pcond_true, pcond_false, NamelessL, Nameless, Nat.reduceMul, Nat.reduceAdd, Nat.zero_add, Int.toNat_natCast, unu_u32s]
  refine pcond_intro (fun h => ⟨hpre, ?_⟩) (fun h => ?_) <;> simp [h]
def ent_lsame : Ent := fun ds => match ds with
  | [.agg [.v (.bool xn), .ro n_xs ys_xs], .v (.int .i64 e), .agg [.v (.bool yn), .ro n_ys ys_ys], .v (.int .i64 f)] => some (.v (.bool ((e == f) && ((xn == yn) && (cmpL (unu ys_xs) (unu ys_ys) == 0)))), (ys_ys = u32s (unu ys_ys) ∧ n_ys = (unu ys_ys).length) ∧ (ys_xs = u32s (unu ys_xs) ∧ n_xs = (unu ys_xs).length) ∧ (unu ys_xs).length ≤ 1000)
  | _ => none
theorem ent_lsame_ok : EntOk Try.prog 15 ent_lsame := by
  intro ds d c h hc; unfold ent_lsame at h; split at h
  · rename_i xn n_xs ys_xs e yn n_ys ys_ys f; obtain ⟨rfl, rfl⟩ := pair_inj h
    obtain ⟨⟨h1, h2⟩, hc⟩ := hc; subst h2; generalize (unu ys_ys) = ys at *; subst h1
    obtain ⟨⟨h1, h2⟩, hc⟩ := hc; subst h2; generalize (unu ys_xs) = xs at *; subst h1
    exact lsame_pure _ xs _ _ ys _ hc
  · cases h
theorem okS_len (v : Int) : (okS v).2.1.length ≤ 400 := by
  unfold okS
  by_cases h : (ofL v).length ≤ 400 <;> simp [h]
theorem arS_len (b : Bool) (v : Int) : (arS b v).2.1.length ≤ 400 := by
  unfold arS
  cases b with
  | false => simp
  | true => exact okS_len v
end Go.Proofs.Ythnhfkpihbjddaa
end
section
namespace Go.Proofs.Ythnhfkpihbjddaa
open Go.VD
set_option linter.unusedVariables false
set_option linter.unusedSimpArgs false
set_option maxRecDepth 100000
end Go.Proofs.Ythnhfkpihbjddaa
end
section
namespace Go.Proofs.Ythnhfkpihbjddaa
open Go.VD
set_option linter.unusedVariables false
set_option linter.unusedSimpArgs false
set_option maxRecDepth 100000
theorem u32_chunks : ∀ {chunks : List (List D)}, (∀ c ∈ chunks, TC T 41 c) → ∃ xs : List Nat, chunks.flatten = u32s xs ∧ xs.length = chunks.length ∧ Dig xs
  | [], _ => ⟨[], rfl, rfl, Dig.nil⟩
  | c :: cs, h => by
    obtain ⟨xs, e1, e2, e3⟩ := u32_chunks (chunks := cs) fun c hc => h c (by simp [hc])
    obtain ⟨n, rfl, hw⟩ := (h c (by simp)).int_inv T_41
    have hn : 0 ≤ n ∧ n < 4294967296 := by simp [Lit.wf, IntKind.min, IntKind.max, IntKind.bits, IntKind.signed] at hw; omega
    obtain ⟨x, rfl⟩ := Int.eq_ofNat_of_zero_le hn.1
    exact ⟨x :: xs, by simp [e1, u32s], by simp [e2], Dig.cons.2 ⟨by omega, e3⟩⟩
theorem big_inv {cs : List D} (h : TFields T [(0, 4), (1, 22)] cs) : ∃ (b : Bool) (xs : List Nat), cs = [.v (.bool b), .ro xs.length (u32s xs)] ∧ Dig xs := by
  obtain ⟨p, r, rfl, h1, p2, r2, rfl, h2, rfl⟩ := h
  obtain ⟨b, rfl⟩ := h1.bool_inv T_4
  obtain ⟨chunks, rfl, hl, hc⟩ := h2.slice_inv T_22
  obtain ⟨xs, e1, e2, e3⟩ := u32_chunks hc
  exact ⟨b, xs, by rw [e1, ← e2]; rfl, e3⟩
end Go.Proofs.Ythnhfkpihbjddaa
end
section
namespace Go.Proofs.Ythnhfkpihbjddaa
open Go.VD
set_option linter.unusedVariables false
set_option linter.unusedSimpArgs false
set_option maxRecDepth 100000
def d_val (a : Int) : D := .agg [.v (.bool (decide (a < 0))), .ro (ofL a).length (u32s (ofL a))]
def Cn (xn : Bool) (n : Nat) (ys : List D) (a : Int) : Prop := (xn = decide (a < 0) ∧ n = (ofL a).length) ∧ ys = u32s (ofL a)
theorem Cn.self (a : Int) : Cn (decide (a < 0)) (ofL a).length (u32s (ofL a)) a := ⟨⟨rfl, rfl⟩, rfl⟩
def ln (a : Int) : Nat := (ofL a).length
theorem lenOk_val {a : Int} (h : ln a ≤ 400) : LenOk (ofL a) := ⟨by unfold ln at h; omega, dg_dig _⟩
theorem valid_val {a : Int} (h : ln a ≤ 400) : validL (decide (a < 0)) (ofL a) = true := good_valid (good_of a) h
theorem okS_val {v : Int} (h : ln v ≤ 400) : okS v = (decide (v < 0), ofL v, 0) := by unfold ln at h; simp [okS, h]
theorem ln_add {a b : Int} {m : Nat} (ha : ln a ≤ m) (hb : ln b ≤ m) : ln (a + b) ≤ m + 1 := by
  have h1 := lt_of_dg_length (v := a.natAbs) (k := m) ha
  have h2 := lt_of_dg_length (v := b.natAbs) (k := m) hb
  refine ofL_len ?_
  rw [Nat.pow_succ]
  have := Int.natAbs_add_le a b
  omega
theorem ln_neg (a : Int) : ln (-a) = ln a := by unfold ln ofL; rw [Int.natAbs_neg]
theorem ln_sub {a b : Int} {m : Nat} (ha : ln a ≤ m) (hb : ln b ≤ m) : ln (a - b) ≤ m + 1 := by
  rw [Int.sub_eq_add_neg]; exact ln_add ha (by rw [ln_neg]; exact hb)
theorem ln_mul {a b : Int} {m n : Nat} (ha : ln a ≤ m) (hb : ln b ≤ n) : ln (a * b) ≤ m + n := by
  have := ofL_mul_len a b
  unfold ln at *; omega
theorem nl_val (a : Int) : Nameless (d_val a) := by simp [d_val, Nameless, NamelessL, u32s_nameless]
theorem vAdd_pure (a b : Int) (hpre : (ln a ≤ 400 ∧ ln b ≤ 400) ∧ ln (a + b) ≤ 400) : PureJ Try.prog 29 [d_val a, d_val b] (.tup [d_val (a + b), .v (.int .i64 0)]) := by
  have h := hAdd_pure (decide (a < 0)) (ofL a) (decide (b < 0)) (ofL b) ⟨lenOk_val hpre.1.1, lenOk_val hpre.1.2⟩
  rw [valid_val hpre.1.1, valid_val hpre.1.2, iv_of, iv_of] at h
  simp only [arS, Bool.and_self, cond_true, okS_val hpre.2] at h
  exact h
def entq_vAdd : EntQ := fun ds K => match ds with
  | [.agg [.v (.bool xn), .ro n1 y1], .agg [.v (.bool yn), .ro n2 y2]] => some (∃ a b : Int, (Cn xn n1 y1 a ∧ Cn yn n2 y2 b) ∧ ((ln a ≤ 400 ∧ ln b ≤ 400) ∧ ln (a + b) ≤ 400) ∧ K (.tup [d_val (a + b), .v (.int .i64 0)]))
  | _ => none
theorem entq_vAdd_ok : EntQOk Try.prog 29 entq_vAdd := by
  intro ds K p h hp; unfold entq_vAdd at h; split at h
  · injection h with h; subst h
    obtain ⟨a, b, ⟨⟨⟨rfl, rfl⟩, rfl⟩, ⟨⟨rfl, rfl⟩, rfl⟩⟩, hc, hk⟩ := hp
    exact ⟨_, vAdd_pure a b hc, hk⟩
  · cases h
theorem vMul_pure (a b : Int) (hpre : (ln a ≤ 400 ∧ ln b ≤ 400) ∧ ln (a * b) ≤ 400) : PureJ Try.prog 31 [d_val a, d_val b] (.tup [d_val (a * b), .v (.int .i64 0)]) := by
  have h := hMul_pure (decide (a < 0)) (ofL a) (decide (b < 0)) (ofL b) ⟨lenOk_val hpre.1.1, lenOk_val hpre.1.2⟩
  rw [valid_val hpre.1.1, valid_val hpre.1.2, iv_of, iv_of] at h
  simp only [arS, Bool.and_self, cond_true, okS_val hpre.2] at h
  exact h
def entq_vMul : EntQ := fun ds K => match ds with
  | [.agg [.v (.bool xn), .ro n1 y1], .agg [.v (.bool yn), .ro n2 y2]] => some (∃ a b : Int, (Cn xn n1 y1 a ∧ Cn yn n2 y2 b) ∧ ((ln a ≤ 400 ∧ ln b ≤ 400) ∧ ln (a * b) ≤ 400) ∧ K (.tup [d_val (a * b), .v (.int .i64 0)]))
  | _ => none
theorem entq_vMul_ok : EntQOk Try.prog 31 entq_vMul := by
  intro ds K p h hp; unfold entq_vMul at h; split at h
  · injection h with h; subst h
    obtain ⟨a, b, ⟨⟨⟨rfl, rfl⟩, rfl⟩, ⟨⟨rfl, rfl⟩, rfl⟩⟩, hc, hk⟩ := hp
    exact ⟨_, vMul_pure a b hc, hk⟩
  · cases h
theorem vCompare_pure (a b : Int) (hpre : ln a ≤ 400 ∧ ln b ≤ 400) : PureJ Try.prog 25 [d_val a, d_val b] (.v (.int .i64 (cmpZ a b))) := by
  have h := iCompare_pure (decide (a < 0)) (ofL a) (decide (b < 0)) (ofL b) ⟨by have := hpre.1; unfold ln at this; omega, by have := hpre.2; unfold ln at this; omega⟩
  rw [cmpI_good (good_of a) (good_of b) hpre.1 hpre.2, iv_of, iv_of] at h
  exact h
def entq_vCompare : EntQ := fun ds K => match ds with
  | [.agg [.v (.bool xn), .ro n1 y1], .agg [.v (.bool yn), .ro n2 y2]] => some (∃ a b : Int, (Cn xn n1 y1 a ∧ Cn yn n2 y2 b) ∧ (ln a ≤ 400 ∧ ln b ≤ 400) ∧ K (.v (.int .i64 (cmpZ a b))))
  | _ => none
theorem entq_vCompare_ok : EntQOk Try.prog 25 entq_vCompare := by
  intro ds K p h hp; unfold entq_vCompare at h; split at h
  · injection h with h; subst h
    obtain ⟨a, b, ⟨⟨⟨rfl, rfl⟩, rfl⟩, ⟨⟨rfl, rfl⟩, rfl⟩⟩, hc, hk⟩ := hp
    exact ⟨_, vCompare_pure a b hc, hk⟩
  · cases h
theorem same_val (a b : Int) : ((decide (a < 0) == decide (b < 0)) && (cmpL (ofL a) (ofL b) == 0)) = decide (a = b) := by
  have h : cmpL (ofL a) (ofL b) = cmpN a.natAbs b.natAbs := cmpL_dg _ _
  rw [h, Bool.eq_iff_iff]
  unfold cmpN
  simp only [Bool.and_eq_true, beq_iff_eq, decide_eq_true_eq, decide_eq_decide]
  constructor
  · rintro ⟨h1, h2⟩
    split at h2
    · exact absurd h2 (by decide)
    · split at h2
      · exact absurd h2 (by decide)
      · omega
  · rintro rfl
    simp
theorem vSame_pure (a b : Int) (hpre : ln a ≤ 400) : PureJ Try.prog 16 [d_val a, d_val b] (.v (.bool (decide (a = b)))) := by
  have h := gSame_pure (decide (a < 0)) (ofL a) (decide (b < 0)) (ofL b) (by unfold ln at hpre; omega)
  rw [same_val] at h
  exact h
def entq_vSame : EntQ := fun ds K => match ds with
  | [.agg [.v (.bool xn), .ro n1 y1], .agg [.v (.bool yn), .ro n2 y2]] => some (∃ a b : Int, (Cn xn n1 y1 a ∧ Cn yn n2 y2 b) ∧ (ln a ≤ 400) ∧ K (.v (.bool (decide (a = b)))))
  | _ => none
theorem entq_vSame_ok : EntQOk Try.prog 16 entq_vSame := by
  intro ds K p h hp; unfold entq_vSame at h; split at h
  · injection h with h; subst h
    obtain ⟨a, b, ⟨⟨⟨rfl, rfl⟩, rfl⟩, ⟨⟨rfl, rfl⟩, rfl⟩⟩, hc, hk⟩ := hp
    exact ⟨_, vSame_pure a b hc, hk⟩
  · cases h
theorem vsum_pure (a b : Int) (hpre : (ln a ≤ 400 ∧ ln b ≤ 400) ∧ ln (a + b) ≤ 400) : PureJ Try.prog 22 [d_val a, d_val b] (d_val (a + b)) := by
  refine pureJ_of_vcx (call := addQ 29 entq_vAdd noCalls) (lp := fun _ => none) (N := 10) T_ok mixed (addQ_ok entq_vAdd_ok noCalls_ok) Try.func22 rfl (by decide) (by kernel_rfl) (by kernel_rfl) (LpAll.none _) (by simp [NamelessL, nl_val]) (nl_val _) ?_
  refine of_eq (B := letI z0 := ((2 : Nat) ≤ (2 : Nat)); letI z1 := (((2 : Nat) = (2 : Nat)) ∧ z0); (True ∧ (True ∧ (True ∧ (z0 ∧ (z0 ∧ (∃ (a_1 : Int), (∃ (b_1 : Int), (((Cn (Decidable.decide (a < (0 : Int))) (List.length (ofL a)) (u32s (ofL a)) a_1) ∧ (Cn (Decidable.decide (b < (0 : Int))) (List.length (ofL b)) (u32s (ofL b)) b_1)) ∧ (((((ln a_1) ≤ (400 : Nat)) ∧ ((ln b_1) ≤ (400 : Nat))) ∧ ((ln (a_1 + b_1)) ≤ (400 : Nat))) ∧ (True ∧ (True ∧ (True ∧ (True ∧ (z1 ∧ (True ∧ (z0 ∧ (z1 ∧ ((z0 ∧ True) ∧ ((True ∧ (True ∧ True)) ∧ ((D.agg [(D.v (Value.bool (Decidable.decide ((a_1 + b_1) < (0 : Int))))), (D.ro (List.length (ofL (a_1 + b_1))) (u32s (ofL (a_1 + b_1))))]) = (D.agg [(D.v (Value.bool (Decidable.decide ((a + b) < (0 : Int))))), (D.ro (List.length (ofL (a + b))) (u32s (ofL (a + b))))])))))))))))))))))))))) (by kernel_rfl) ?_
  simp only [true_and, and_true, and_self, IsInt_lit, IsBool_lit, IsStr_lit, Bool.not_eq_true', Bool.not_eq_false', Bool.not_true, Bool.not_false, Int.reduceLE, Int.reduceLT, Int.reduceNeg, Nat.le_refl, Int.le_refl, Nat.reduceLT, Nat.reduceLeDiff, Nat.reduceEqDiff, D.v.injEq, D.tup.injEq, D.agg.injEq, D.ro.injEq, List.cons.injEq, Value.int.injEq, Value.bool.injEq, pcond_true, pcond_false, NamelessL, Nameless, Nat.reduceMul, Nat.reduceAdd, Nat.zero_add, Int.toNat_natCast]
  exact ⟨a, b, ⟨Cn.self a, Cn.self b⟩, hpre, rfl, rfl, rfl⟩
def entq_vsum : EntQ := fun ds K => match ds with
  | [.agg [.v (.bool xn), .ro n1 y1], .agg [.v (.bool yn), .ro n2 y2]] => some (∃ a b : Int, (Cn xn n1 y1 a ∧ Cn yn n2 y2 b) ∧ ((ln a ≤ 400 ∧ ln b ≤ 400) ∧ ln (a + b) ≤ 400) ∧ K (d_val (a + b)))
  | _ => none
theorem entq_vsum_ok : EntQOk Try.prog 22 entq_vsum := by
  intro ds K p h hp; unfold entq_vsum at h; split at h
  · injection h with h; subst h
    obtain ⟨a, b, ⟨⟨⟨rfl, rfl⟩, rfl⟩, ⟨⟨rfl, rfl⟩, rfl⟩⟩, hc, hk⟩ := hp
    exact ⟨_, vsum_pure a b hc, hk⟩
  · cases h
theorem vprod_pure (a b : Int) (hpre : (ln a ≤ 400 ∧ ln b ≤ 400) ∧ ln (a * b) ≤ 400) : PureJ Try.prog 23 [d_val a, d_val b] (d_val (a * b)) := by
  refine pureJ_of_vcx (call := addQ 31 entq_vMul noCalls) (lp := fun _ => none) (N := 10) T_ok mixed (addQ_ok entq_vMul_ok noCalls_ok) Try.func23 rfl (by decide) (by kernel_rfl) (by kernel_rfl) (LpAll.none _) (by simp [NamelessL, nl_val]) (nl_val _) ?_
  refine of_eq (B := letI z0 := ((2 : Nat) ≤ (2 : Nat)); letI z1 := (((2 : Nat) = (2 : Nat)) ∧ z0); (True ∧ (True ∧ (True ∧ (z0 ∧ (z0 ∧ (∃ (a_1 : Int), (∃ (b_1 : Int), (((Cn (Decidable.decide (a < (0 : Int))) (List.length (ofL a)) (u32s (ofL a)) a_1) ∧ (Cn (Decidable.decide (b < (0 : Int))) (List.length (ofL b)) (u32s (ofL b)) b_1)) ∧ (((((ln a_1) ≤ (400 : Nat)) ∧ ((ln b_1) ≤ (400 : Nat))) ∧ ((ln (a_1 * b_1)) ≤ (400 : Nat))) ∧ (True ∧ (True ∧ (True ∧ (True ∧ (z1 ∧ (True ∧ (z0 ∧ (z1 ∧ ((z0 ∧ True) ∧ ((True ∧ (True ∧ True)) ∧ ((D.agg [(D.v (Value.bool (Decidable.decide ((a_1 * b_1) < (0 : Int))))), (D.ro (List.length (ofL (a_1 * b_1))) (u32s (ofL (a_1 * b_1))))]) = (D.agg [(D.v (Value.bool (Decidable.decide ((a * b) < (0 : Int))))), (D.ro (List.length (ofL (a * b))) (u32s (ofL (a * b))))])))))))))))))))))))))) (by kernel_rfl) ?_
  simp only [true_and, and_true, and_self, IsInt_lit, IsBool_lit, IsStr_lit, Bool.not_eq_true', Bool.not_eq_false', Bool.not_true, Bool.not_false, Int.reduceLE, Int.reduceLT, Int.reduceNeg, Nat.le_refl, Int.le_refl, Nat.reduceLT, Nat.reduceLeDiff, Nat.reduceEqDiff, D.v.injEq, D.tup.injEq, D.agg.injEq, D.ro.injEq, List.cons.injEq, Value.int.injEq, Value.bool.injEq, pcond_true, pcond_false, NamelessL, Nameless, Nat.reduceMul, Nat.reduceAdd, Nat.zero_add, Int.toNat_natCast]
  exact ⟨a, b, ⟨Cn.self a, Cn.self b⟩, hpre, rfl, rfl, rfl⟩
def entq_vprod : EntQ := fun ds K => match ds with
  | [.agg [.v (.bool xn), .ro n1 y1], .agg [.v (.bool yn), .ro n2 y2]] => some (∃ a b : Int, (Cn xn n1 y1 a ∧ Cn yn n2 y2 b) ∧ ((ln a ≤ 400 ∧ ln b ≤ 400) ∧ ln (a * b) ≤ 400) ∧ K (d_val (a * b)))
  | _ => none
theorem entq_vprod_ok : EntQOk Try.prog 23 entq_vprod := by
  intro ds K p h hp; unfold entq_vprod at h; split at h
  · injection h with h; subst h
    obtain ⟨a, b, ⟨⟨⟨rfl, rfl⟩, rfl⟩, ⟨⟨rfl, rfl⟩, rfl⟩⟩, hc, hk⟩ := hp
    exact ⟨_, vprod_pure a b hc, hk⟩
  · cases h
theorem vSize_pure (a : Int) (hpre : ln a ≤ 400) : PureJ Try.prog 26 [d_val a] (d_val (a.natAbs : Int)) := by
  refine pureJ_of_vcx (call := addPure 60 ent_made noCalls) (lp := fun _ => none) (N := 10) T_ok mixed (addPure_ok ent_made_ok noCalls_ok) Try.func26 rfl (by decide) (by kernel_rfl) (by kernel_rfl) (LpAll.none _) (by simp [NamelessL, nl_val]) (nl_val _) ?_
  refine of_eq (B := letI z0 := (unu (u32s (ofL a))); letI z1 := (((Int.natAbs a) : Nat) : Int); letI z2 := ((2 : Nat) ≤ (2 : Nat)); (True ∧ (True ∧ (True ∧ (((1 : Nat) < (2 : Nat)) ∧ (((((u32s (ofL a)) = (u32s z0)) ∧ ((List.length (ofL a)) = (List.length z0))) ∧ ((List.length z0) ≤ (1000000 : Nat))) ∧ ((((2 : Nat) = (2 : Nat)) ∧ z2) ∧ ((z2 ∧ True) ∧ ((True ∧ (True ∧ True)) ∧ ((D.agg [(D.v (Value.bool (madeN Bool.false z0))), (D.ro (List.length (trimL z0)) (u32s (trimL z0)))]) = (D.agg [(D.v (Value.bool (Decidable.decide (z1 < (0 : Int))))), (D.ro (List.length (ofL z1)) (u32s (ofL z1)))]))))))))))) (by kernel_rfl) ?_
  simp only [true_and, and_true, and_self, IsInt_lit, IsBool_lit, IsStr_lit, Bool.not_eq_true', Bool.not_eq_false', Bool.not_true, Bool.not_false, Int.reduceLE, Int.reduceLT, Int.reduceNeg, Nat.le_refl, Int.le_refl, Nat.reduceLT, Nat.reduceLeDiff, Nat.reduceEqDiff, D.v.injEq, D.tup.injEq, D.agg.injEq, D.ro.injEq, List.cons.injEq, Value.int.injEq, Value.bool.injEq, pcond_true, pcond_false, NamelessL, Nameless, Nat.reduceMul, Nat.reduceAdd, Nat.zero_add, Int.toNat_natCast, unu_u32s]
  have hm := madeN_dg false a.natAbs
  have e : ofL ((a.natAbs : Nat) : Int) = ofL a := by unfold ofL; simp
  have e2 : decide (((a.natAbs : Nat) : Int) < 0) = false := by simp
  unfold ln at hpre
  have h1 : madeN false (ofL a) = false := by unfold ofL; rw [hm.1]; rfl
  have h2 : trimL (ofL a) = ofL a := hm.2
  rw [e, e2, h1, h2]
  exact ⟨by omega, rfl, rfl, rfl⟩
def entq_vSize : EntQ := fun ds K => match ds with
  | [.agg [.v (.bool xn), .ro n1 y1]] => some (∃ a : Int, Cn xn n1 y1 a ∧ (ln a ≤ 400) ∧ K (d_val (a.natAbs : Int)))
  | _ => none
theorem entq_vSize_ok : EntQOk Try.prog 26 entq_vSize := by
  intro ds K p h hp; unfold entq_vSize at h; split at h
  · injection h with h; subst h
    obtain ⟨a, ⟨⟨rfl, rfl⟩, rfl⟩, hc, hk⟩ := hp
    exact ⟨_, vSize_pure a hc, hk⟩
  · cases h
theorem iSignI_pure (xn : Bool) (xs : List Nat) (hpre : xs.length ≤ 1000000000000) : PureJ Try.prog 24 [.agg [.v (.bool xn), .ro xs.length (u32s xs)]] (.v (.int .i64 (cmpI xn xs false []))) := by
  refine pureJ_of_vcx (call := (addPure 25 (nilEnt ent_iCompare) noCalls)) (lp := fun _ => none) (N := 10) T_ok mixed (addPure_ok (nilEnt_ok ent_iCompare_ok) noCalls_ok) Try.func24 rfl (by decide) (by kernel_rfl) (by kernel_rfl) (LpAll.none _) (by first | trivial | (simp only [NamelessL, Nameless, and_self, and_true, true_and]; done) | (simp [NamelessL, Nameless, u32s_nameless, namelessL_ints]; done)) (by first | trivial | (simp only [NamelessL, Nameless, and_self, and_true, true_and]; done) | (simp [NamelessL, Nameless, u32s_nameless, namelessL_ints]; done)) ?_
  refine of_eq (B := letI z0 := (unu (u32s xs)); letI z1 := (1000000000000 : Nat); letI z2 := (unu ([] : List D)); (True ∧ (True ∧ (((2 : Nat) ≤ (2 : Nat)) ∧ (True ∧ ((((([] : List D) = (u32s z2)) ∧ ((0 : Nat) = (0 : Nat))) ∧ ((((u32s xs) = (u32s z0)) ∧ ((List.length xs) = (List.length z0))) ∧ (((List.length z0) ≤ z1) ∧ ((0 : Nat) ≤ z1)))) ∧ (True ∧ (True ∧ (True ∧ ((D.v (Value.int IntKind.i64 (cmpI xn z0 Bool.false z2))) = (D.v (Value.int IntKind.i64 (cmpI xn xs Bool.false ([] : List Nat)))))))))))))) (by kernel_rfl) ?_
  simp only [true_and, and_true, and_self, IsInt_lit, IsBool_lit, IsStr_lit, Bool.not_eq_true', Bool.not_eq_false', Bool.not_true, Bool.not_false, Int.reduceLE, Int.reduceLT, Int.reduceNeg, Nat.le_refl, Int.le_refl, Nat.reduceLT, Nat.reduceLeDiff, Nat.reduceEqDiff, D.v.injEq, D.tup.injEq, D.agg.injEq, D.ro.injEq, List.cons.injEq, Value.int.injEq, Value.bool.injEq, pcond_true, pcond_false, NamelessL, Nameless, Nat.reduceMul, Nat.reduceAdd, Nat.zero_add, Int.toNat_natCast, unu_u32s]
  exact ⟨⟨rfl, hpre⟩, rfl⟩
def ent_iSignI : Ent := fun ds => match ds with
  | [.agg [.v (.bool xn), .ro n_xs ys_xs]] => some (.v (.int .i64 (cmpI xn (unu ys_xs) false [])), (ys_xs = u32s (unu ys_xs) ∧ n_xs = (unu ys_xs).length) ∧ (unu ys_xs).length ≤ 1000000000000)
  | _ => none
theorem ent_iSignI_ok : EntOk Try.prog 24 ent_iSignI := by
  intro ds d c h hc; unfold ent_iSignI at h; split at h
  · rename_i xn n_xs ys_xs; obtain ⟨rfl, rfl⟩ := pair_inj h
    obtain ⟨⟨h1, h2⟩, hc⟩ := hc; subst h2; generalize (unu ys_xs) = xs at *; subst h1
    exact iSignI_pure _ xs hc
  · cases h
theorem vSign_pure (a : Int) (hpre : ln a ≤ 400) : PureJ Try.prog 24 [d_val a] (.v (.int .i64 a.sign)) := by
  have h := iSignI_pure (decide (a < 0)) (ofL a) (by unfold ln at hpre; omega)
  rw [cmpI_good (good_of a) good_zero hpre (by simp), iv_of, iv_zero, cmpZ_zero] at h
  exact h
def entq_vSign : EntQ := fun ds K => match ds with
  | [.agg [.v (.bool xn), .ro n1 y1]] => some (∃ a : Int, Cn xn n1 y1 a ∧ (ln a ≤ 400) ∧ K (.v (.int .i64 a.sign)))
  | _ => none
theorem entq_vSign_ok : EntQOk Try.prog 24 entq_vSign := by
  intro ds K p h hp; unfold entq_vSign at h; split at h
  · injection h with h; subst h
    obtain ⟨a, ⟨⟨rfl, rfl⟩, rfl⟩, hc, hk⟩ := hp
    exact ⟨_, vSign_pure a hc, hk⟩
  · cases h
end Go.Proofs.Ythnhfkpihbjddaa
end
section
namespace Go.Proofs.Ythnhfkpihbjddaa
open Go.VD
set_option linter.unusedVariables false
set_option linter.unusedSimpArgs false
set_option maxRecDepth 100000
theorem cn_valid {n : Bool} {xs : List Nat} (hd : Dig xs) (h : validL n xs = true) : Cn n xs.length (u32s xs) (iv n xs) ∧ ln (iv n xs) = xs.length := by
  obtain ⟨g, _⟩ := valid_good hd h
  obtain ⟨e1, e2⟩ := good_eq g
  exact ⟨⟨⟨e1, congrArg List.length e2⟩, congrArg u32s e2⟩, (congrArg List.length e2).symm⟩
theorem sq_cmp (X Y : Int) : cmpZ (X * X) (Y * Y) = cmpZ (X.natAbs : Int) (Y.natAbs : Int) := by
  have e1 := Int.natAbs_mul_self (a := X)
  have e2 := Int.natAbs_mul_self (a := Y)
  rw [← e1, ← e2]
  generalize X.natAbs = a
  generalize Y.natAbs = b
  have m : ∀ a b : Nat, a < b ↔ a * a < b * b := fun a b => by
    constructor
    · exact fun h => Nat.mul_self_lt_mul_self h
    · intro h
      refine Classical.byContradiction fun hc => ?_
      have := Nat.mul_le_mul (Nat.le_of_not_lt hc) (Nat.le_of_not_lt hc)
      omega
  have h1 := m a b
  have h2 := m b a
  unfold cmpZ
  have c1 : ((a : Int) * a < (b : Int) * b) = (a * a < b * b) := by rw [← Int.natCast_mul, ← Int.natCast_mul, Int.ofNat_lt]
  have c2 : ((b : Int) * b < (a : Int) * a) = (b * b < a * a) := by rw [← Int.natCast_mul, ← Int.natCast_mul, Int.ofNat_lt]
  simp only [c1, c2, Int.ofNat_lt, ← h1, ← h2]
theorem gLarge3_pure (xn : Bool) (xs : List Nat) (yn : Bool) (ys : List Nat) (zn : Bool) (zs : List Nat) : PureJ Try.prog 12 [.ro 3 [.v (.bool xn), .ro xs.length (u32s xs), .v (.bool yn), .ro ys.length (u32s ys), .v (.bool zn), .ro zs.length (u32s zs)]] (.v (.bool (decide (40 < xs.length) || (decide (40 < ys.length) || decide (40 < zs.length))))) := by
  refine pureJ_of_vcx (call := noCalls) (lp := fun _ => none) (N := 5) T_ok mixed noCalls_ok Try.func12 rfl (by decide) (by kernel_rfl) (by kernel_rfl) (LpAll.none _) (by first | trivial | (simp only [NamelessL, Nameless, and_self, and_true, true_and]; done) | (simp [NamelessL, Nameless, u32s_nameless, namelessL_ints]; done)) (by first | trivial | (simp only [NamelessL, Nameless, and_self, and_true, true_and]; done) | (simp [NamelessL, Nameless, u32s_nameless, namelessL_ints]; done)) ?_
  refine of_eq (B := letI z0 := (D.v (Value.bool ((Decidable.decide ((40 : Nat) < (List.length xs))) || ((Decidable.decide ((40 : Nat) < (List.length ys))) || (Decidable.decide ((40 : Nat) < (List.length zs))))))); letI z1 := (True ∧ (True ∧ (True ∧ ((D.v (Value.bool Bool.true)) = z0)))); (True ∧ (True ∧ (True ∧ (True ∧ (True ∧ (True ∧ (True ∧ (True ∧ ((((0 : Int) ≤ (0 : Int)) ∧ ((0 : Int) < (3 : Int))) ∧ (True ∧ (((1 : Nat) < (6 : Nat)) ∧ (True ∧ (True ∧ (pcond (Decidable.decide ((40 : Int) < (((List.length xs) : Nat) : Int))) z1 (True ∧ (True ∧ (True ∧ (True ∧ (True ∧ (True ∧ (True ∧ (True ∧ (True ∧ ((((0 : Int) ≤ (1 : Int)) ∧ ((1 : Int) < (3 : Int))) ∧ (True ∧ (((3 : Nat) < (6 : Nat)) ∧ (True ∧ (True ∧ (pcond (Decidable.decide ((40 : Int) < (((List.length ys) : Nat) : Int))) z1 (True ∧ (True ∧ (True ∧ (True ∧ (True ∧ (True ∧ (True ∧ (True ∧ (True ∧ ((((0 : Int) ≤ (2 : Int)) ∧ ((2 : Int) < (3 : Int))) ∧ (True ∧ (((5 : Nat) < (6 : Nat)) ∧ (True ∧ (True ∧ (pcond (Decidable.decide ((40 : Int) < (((List.length zs) : Nat) : Int))) z1 (True ∧ (True ∧ (True ∧ (True ∧ (True ∧ (True ∧ (True ∧ (True ∧ (True ∧ (True ∧ ((D.v (Value.bool Bool.false)) = z0)))))))))))))))))))))))))))))))))))))))))))))))))))))))) (by kernel_rfl) ?_
  simp only [true_and, and_true, and_self, IsInt_lit, IsBool_lit, IsStr_lit, Bool.not_eq_true', Bool.not_eq_false', Bool.not_true, Bool.not_false, Int.reduceLE, Int.reduceLT, Int.reduceNeg, Nat.le_refl, Int.le_refl, Nat.reduceLT, Nat.reduceLeDiff, Nat.reduceEqDiff, D.v.injEq, D.tup.injEq, D.agg.injEq, D.ro.injEq, List.cons.injEq, Value.int.injEq, Value.bool.injEq, pcond_true, pcond_false, NamelessL, Nameless, Nat.reduceMul, Nat.reduceAdd, Nat.zero_add, Int.toNat_natCast, unu_u32s]
  have e : ∀ n : Nat, decide ((40 : Int) < (n : Int)) = decide (40 < n) := fun n => by rw [decide_eq_decide]; omega
  rw [e, e, e]
  refine pcond_intro (fun h => ?_) (fun h => pcond_intro (fun h2 => ?_) (fun h2 => pcond_intro (fun h3 => ?_) (fun h3 => ?_))) <;> simp [*]
def ent_gLarge3 : Ent := fun ds => match ds with
  | [.ro 3 [.v (.bool xn), .ro n_xs ys_xs, .v (.bool yn), .ro n_ys ys_ys, .v (.bool zn), .ro n_zs ys_zs]] => some (.v (.bool (decide (40 < (unu ys_xs).length) || (decide (40 < (unu ys_ys).length) || decide (40 < (unu ys_zs).length)))), (ys_zs = u32s (unu ys_zs) ∧ n_zs = (unu ys_zs).length) ∧ (ys_ys = u32s (unu ys_ys) ∧ n_ys = (unu ys_ys).length) ∧ (ys_xs = u32s (unu ys_xs) ∧ n_xs = (unu ys_xs).length) ∧ True)
  | _ => none
theorem ent_gLarge3_ok : EntOk Try.prog 12 ent_gLarge3 := by
  intro ds d c h hc; unfold ent_gLarge3 at h; split at h
  · rename_i xn n_xs ys_xs yn n_ys ys_ys zn n_zs ys_zs; obtain ⟨rfl, rfl⟩ := pair_inj h
    obtain ⟨⟨h1, h2⟩, hc⟩ := hc; subst h2; generalize (unu ys_zs) = zs at *; subst h1
    obtain ⟨⟨h1, h2⟩, hc⟩ := hc; subst h2; generalize (unu ys_ys) = ys at *; subst h1
    obtain ⟨⟨h1, h2⟩, hc⟩ := hc; subst h2; generalize (unu ys_xs) = xs at *; subst h1
    exact gLarge3_pure _ xs _ ys _ zs
  · cases h
end Go.Proofs.Ythnhfkpihbjddaa
end
