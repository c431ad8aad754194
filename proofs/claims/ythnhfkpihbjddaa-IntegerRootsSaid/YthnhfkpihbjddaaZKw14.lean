import Derived.Test.YthnhfkpihbjddaaZKw13
import Derived.Test.YthnhfkpihbjddaaZKw8
import Derived.Test.YthnhfkpihbjddaaZKw11
section
namespace Go.Proofs.Ythnhfkpihbjddaa
open Go.VD
set_option linter.unusedVariables false
set_option linter.unusedSimpArgs false
set_option maxRecDepth 100000
def sigF (xs : List Nat) : Bool := decide ((trimL xs).length ≤ 400)
def sigL (xs : List Nat) : List Nat := bif sigF xs then trimL xs else []
def sigN (neg : Bool) (xs : List Nat) : Bool := sigF xs && madeN neg xs
def sigE (xs : List Nat) : Int := bif sigF xs then 0 else 2
theorem sig_small (neg : Bool) {v : Nat} (h : (dg v).length ≤ 400) : sigN neg (dg v) = (neg && decide (v ≠ 0)) ∧ sigL (dg v) = dg v ∧ sigE (dg v) = 0 := by
  have e := madeN_dg neg v
  have hf : sigF (dg v) = true := by unfold sigF; rw [e.2]; simpa using h
  unfold sigN sigL sigE
  rw [hf, e.1, e.2]
  exact ⟨rfl, rfl, rfl⟩
theorem isum_same {xn yn : Bool} (h : xn = yn) {xs ys : List Nat} : (yn && decide (nv xs + nv ys ≠ 0)) = decide (iv xn xs + iv yn ys < 0) ∧ dg (nv xs + nv ys) = ofL (iv xn xs + iv yn ys) := by
  subst h
  refine ⟨?_, ?_⟩
  · unfold iv
    cases xn <;> rw [Bool.eq_iff_iff] <;> simp <;> omega
  · unfold ofL iv
    congr 1
    cases xn <;> simp <;> omega
theorem isigned_pure (neg : Bool) (xs : List Nat) (hpre : xs.length ≤ 1000000) : PureJ Try.prog 54 [.v (.bool neg), .ro xs.length (u32s xs)] (.tup [d_int (sigN neg xs) (sigL xs), .v (.int .i64 (sigE xs))]) := by
  refine pureJ_of_vcpN (call := (addPure 89 ent_itrim noCalls)) (lp := fun _ => none) (N := 10) T_ok mixed (addPure_ok ent_itrim_ok noCalls_ok) Try.func54 rfl (by decide) (by kernel_rfl) (by kernel_rfl) (LpAllP.none _) (by first | trivial | (simp only [NamelessL, Nameless, and_self, and_true, true_and]; done) | (simp [NamelessL, Nameless, u32s_nameless, namelessL_ints, d_int]; done)) (by first | trivial | (simp only [NamelessL, Nameless, and_self, and_true, true_and]; done) | (simp [NamelessL, Nameless, u32s_nameless, namelessL_ints, d_int]; done)) ?_
  refine of_eq (B := letI z0 := (D.tup [(D.agg [(D.v (Value.bool (sigN neg xs))), (D.ro (List.length (sigL xs)) (u32s (sigL xs)))]), (D.v (Value.int IntKind.i64 (sigE xs)))]); letI z1 := ((2 : Nat) ≤ (2 : Nat)); letI z4 := (unu (u32s xs)); letI z2 := (List.length (trimL z4)); letI z3 := ((True ∧ (True ∧ True)) ∧ (True ∧ True)); letI z5 := (((2 : Nat) = (2 : Nat)) ∧ z1); letI z6 := (D.v (Value.int IntKind.i64 (0 : Int))); letI z7 := (D.v (Value.bool Bool.false)); letI z8 := (D.ro z2 (u32s (trimL z4))); (True ∧ (True ∧ (True ∧ (((((u32s xs) = (u32s z4)) ∧ ((List.length xs) = (List.length z4))) ∧ ((List.length z4) ≤ (1000000 : Nat))) ∧ (True ∧ (True ∧ (True ∧ (True ∧ (pcond (Decidable.decide ((400 : Int) < ((z2 : Nat) : Int))) (True ∧ (z5 ∧ (True ∧ ((z1 ∧ True) ∧ (z3 ∧ ((D.tup [(D.agg [z7, (D.ro (0 : Nat) ([] : List D))]), (D.v (Value.int IntKind.i64 (2 : Int)))]) = z0)))))) (True ∧ (True ∧ (pcond neg (True ∧ (True ∧ (True ∧ (True ∧ (True ∧ (True ∧ (z5 ∧ (True ∧ ((z1 ∧ True) ∧ (z3 ∧ ((D.tup [(D.agg [(D.v (Value.bool (Decidable.decide ((0 : Int) < ((z2 : Nat) : Int))))), z8]), z6]) = z0))))))))))) (True ∧ (True ∧ (True ∧ (z5 ∧ (True ∧ ((z1 ∧ True) ∧ (z3 ∧ ((D.tup [(D.agg [z7, z8]), z6]) = z0))))))))))))))))))))) (by kernel_rfl) ?_
  simp only [true_and, and_true, and_self, IsInt_lit, IsBool_lit, IsStr_lit, Bool.not_eq_true', Bool.not_eq_false', Bool.not_true, Bool.not_false, Int.reduceLE, Int.reduceLT, Int.reduceNeg, Nat.le_refl, Int.le_refl, Nat.reduceLT, Nat.reduceLeDiff, Nat.reduceEqDiff, D.v.injEq, D.tup.injEq, D.agg.injEq, D.ro.injEq, List.cons.injEq, Value.int.injEq, Value.bool.injEq, pcond_true, pcond_false, NamelessL, Nameless, Nat.reduceMul, Nat.reduceAdd, Nat.zero_add, Int.toNat_natCast, unu_u32s]
  refine ⟨hpre, pcond_intro (fun h => ?_) (fun h => ?_)⟩
  · have hf : sigF xs = false := by unfold sigF; simp at h ⊢; omega
    simp [sigN, sigL, sigE, hf, u32s]
  · have hf : sigF xs = true := by unfold sigF; simp at h ⊢; omega
    have e : decide (0 < ((trimL xs).length : Int)) = decide (0 < (trimL xs).length) := by rw [decide_eq_decide]; omega
    refine pcond_intro (fun h2 => ?_) (fun h2 => ?_) <;> simp [sigN, sigL, sigE, hf, madeN, h2]
def ent_isigned : Ent := fun ds => match ds with
  | [.v (.bool neg), .ro n_xs ys_xs] => some (.tup [d_int (sigN neg (unu ys_xs)) (sigL (unu ys_xs)), .v (.int .i64 (sigE (unu ys_xs)))], (ys_xs = u32s (unu ys_xs) ∧ n_xs = (unu ys_xs).length) ∧ (unu ys_xs).length ≤ 1000000)
  | _ => none
theorem ent_isigned_ok : EntOk Try.prog 54 ent_isigned := by
  intro ds d c h hc; unfold ent_isigned at h; split at h
  · rename_i neg n_xs ys_xs; obtain ⟨rfl, rfl⟩ := pair_inj h
    obtain ⟨⟨h1, h2⟩, hc⟩ := hc; subst h2; generalize (unu ys_xs) = xs at *; subst h1
    exact isigned_pure _ xs hc
  · cases h
theorem isum_pure (xn : Bool) (xs : List Nat) (yn : Bool) (ys : List Nat) (hpre : (xs = dg (nv xs) ∧ xs.length ≤ 200) ∧ ys = dg (nv ys) ∧ ys.length ≤ 200) : PureJ Try.prog 67 [.agg [.v (.bool xn), .ro xs.length (u32s xs)], .v (.bool yn), .ro ys.length (u32s ys)] (.tup [d_int (decide (iv xn xs + iv yn ys < 0)) (ofL (iv xn xs + iv yn ys)), .v (.int .i64 0)]) := by
  refine pureJ_of_vcx (call := (addPure 52 ent_iadd (addPure 65 ent_icompare (addPure 53 ent_isub (addPure 54 ent_isigned noCalls))))) (lp := fun _ => none) (N := 10) T_ok mixed (addPure_ok ent_iadd_ok (addPure_ok ent_icompare_ok (addPure_ok ent_isub_ok (addPure_ok ent_isigned_ok noCalls_ok)))) Try.func67 rfl (by decide) (by kernel_rfl) (by kernel_rfl) (LpAll.none _) (by first | trivial | (simp only [NamelessL, Nameless, and_self, and_true, true_and]; done) | (simp [NamelessL, Nameless, u32s_nameless, namelessL_ints, d_int]; done)) (by first | trivial | (simp only [NamelessL, Nameless, and_self, and_true, true_and]; done) | (simp [NamelessL, Nameless, u32s_nameless, namelessL_ints, d_int]; done)) ?_
  refine of_eq (B := letI z0 := (unu (u32s xs)); letI z1 := (unu (u32s ys)); letI z15 := ((iv xn xs) + (iv yn ys)); letI z2 := (D.tup [(D.agg [(D.v (Value.bool (Decidable.decide (z15 < (0 : Int))))), (D.ro (List.length (ofL z15)) (u32s (ofL z15)))]), (D.v (Value.int IntKind.i64 (0 : Int)))]); letI z16 := (dg ((nv z0) + (nv z1))); letI z3 := (unu (u32s z16)); letI z17 := (dg ((nv z0) - (nv z1))); letI z4 := (unu (u32s z17)); letI z18 := (dg ((nv z1) - (nv z0))); letI z5 := (unu (u32s z18)); letI z14 := List.length z1; letI z6 := (((u32s ys) = (u32s z1)) ∧ ((List.length ys) = z14)); letI z10 := List.length z0; letI z7 := (((u32s xs) = (u32s z0)) ∧ ((List.length xs) = z10)); letI z8 := ((2 : Nat) ≤ (2 : Nat)); letI z9 := ((True ∧ (True ∧ True)) ∧ (True ∧ True)); letI z11 := ((1 : Nat) < (2 : Nat)); letI z12 := (((2 : Nat) = (2 : Nat)) ∧ z8); letI z13 := (((0 : Nat) < (2 : Nat)) ∧ (IsBool (D.v (Value.bool xn)))); letI z19 := (400000 : Nat); letI z20 := (1000000 : Nat); letI z21 := ((Dig z0) ∧ (Dig z1)); (True ∧ (True ∧ (True ∧ (True ∧ (z13 ∧ (True ∧ (True ∧ (pcond (xn == yn) (True ∧ (True ∧ (z11 ∧ (True ∧ ((z6 ∧ (z7 ∧ ((z10 ≤ z19) ∧ ((z14 ≤ z19) ∧ z21)))) ∧ (((((u32s z16) = (u32s z3)) ∧ ((List.length z16) = (List.length z3))) ∧ ((List.length z3) ≤ z20)) ∧ (True ∧ (True ∧ (z12 ∧ (True ∧ ((z8 ∧ True) ∧ (z9 ∧ ((D.tup [(D.agg [(D.v (Value.bool (sigN yn z3))), (D.ro (List.length (sigL z3)) (u32s (sigL z3)))]), (D.v (Value.int IntKind.i64 (sigE z3)))]) = z2))))))))))))) (True ∧ (z11 ∧ (True ∧ ((z6 ∧ (z7 ∧ (z10 ≤ (1000000000000 : Nat)))) ∧ (True ∧ (pcond (Decidable.decide ((0 : Int) ≤ (cmpL z0 z1))) (True ∧ (z13 ∧ (True ∧ (z11 ∧ (True ∧ ((z6 ∧ (z7 ∧ (((z10 ≤ z19) ∧ ((z14 ≤ z10) ∧ z21)) ∧ ((nv z1) ≤ (nv z0))))) ∧ (((((u32s z17) = (u32s z4)) ∧ ((List.length z17) = (List.length z4))) ∧ ((List.length z4) ≤ z20)) ∧ (True ∧ (True ∧ (z12 ∧ (True ∧ ((Bool.true = Bool.true) ∧ ((z8 ∧ True) ∧ (z9 ∧ ((D.tup [(D.agg [(D.v (Value.bool (sigN xn z4))), (D.ro (List.length (sigL z4)) (u32s (sigL z4)))]), (D.v (Value.int IntKind.i64 (sigE z4)))]) = z2))))))))))))))) (True ∧ (True ∧ (True ∧ (z11 ∧ ((z7 ∧ (z6 ∧ (((z14 ≤ z19) ∧ ((z10 ≤ z14) ∧ ((Dig z1) ∧ (Dig z0)))) ∧ ((nv z0) ≤ (nv z1))))) ∧ (((((u32s z18) = (u32s z5)) ∧ ((List.length z18) = (List.length z5))) ∧ ((List.length z5) ≤ z20)) ∧ (True ∧ (True ∧ (z12 ∧ (True ∧ ((z8 ∧ True) ∧ (z9 ∧ ((D.tup [(D.agg [(D.v (Value.bool (sigN yn z5))), (D.ro (List.length (sigL z5)) (u32s (sigL z5)))]), (D.v (Value.int IntKind.i64 (sigE z5)))]) = z2)))))))))))))))))))))))))))) (by kernel_rfl) ?_
  simp only [true_and, and_true, and_self, IsInt_lit, IsBool_lit, IsStr_lit, Bool.not_eq_true', Bool.not_eq_false', Bool.not_true, Bool.not_false, Int.reduceLE, Int.reduceLT, Int.reduceNeg, Nat.le_refl, Int.le_refl, Nat.reduceLT, Nat.reduceLeDiff, Nat.reduceEqDiff, D.v.injEq, D.tup.injEq, D.agg.injEq, D.ro.injEq, List.cons.injEq, Value.int.injEq, Value.bool.injEq, pcond_true, pcond_false, NamelessL, Nameless, Nat.reduceMul, Nat.reduceAdd, Nat.zero_add, Int.toNat_natCast, unu_u32s]
  obtain ⟨⟨gx, lx⟩, gy, ly⟩ := hpre
  have dx : Dig xs := by rw [gx]; exact dg_dig _
  have dy : Dig ys := by rw [gy]; exact dg_dig _
  have hm : plusM xs ys ≤ 200 := by unfold plusM; omega
  have hc : cmpL xs ys = cmpN (nv xs) (nv ys) := by rw [gx, gy, cmpL_dg, ← gx, ← gy]
  refine pcond_intro (fun h => ?_) (fun h => ⟨by omega, pcond_intro (fun h2 => ?_) (fun h2 => ?_)⟩)
  · have hlen := dg_length_le (plus_lt dx dy)
    obtain ⟨s1, s2, s3⟩ := sig_small yn (show (dg (nv xs + nv ys)).length ≤ 400 by omega)
    obtain ⟨e1, e2⟩ := isum_same (show xn = yn by simpa using h) (xs := xs) (ys := ys)
    rw [s1, s2, s3, e1, e2]
    rw [e2] at hlen
    exact ⟨⟨by omega, by omega, dx, dy⟩, by omega, ⟨rfl, rfl, rfl⟩, rfl⟩
  · simp only [decide_eq_true_eq, hc] at h2
    have hle : nv ys ≤ nv xs := by unfold cmpN at h2; split at h2 <;> omega
    have hlm := dg_len_mono hle
    rw [← gx, ← gy] at hlm
    have hl2 := dg_len_mono (show nv xs - nv ys ≤ nv xs by omega)
    rw [← gx] at hl2
    obtain ⟨s1, s2, s3⟩ := sig_small xn (show (dg (nv xs - nv ys)).length ≤ 400 by omega)
    obtain ⟨e1, e2⟩ := add_diff (xn := xn) (yn := yn) (by simpa using h) hle
    rw [(madeN_dg xn (nv xs - nv ys)).1] at e1
    rw [(madeN_dg xn (nv xs - nv ys)).2] at e2
    rw [s1, s2, s3, e1, e2]
    rw [e2] at hl2
    exact ⟨⟨⟨by omega, hlm, dx, dy⟩, hle⟩, by omega, ⟨rfl, rfl, rfl⟩, rfl⟩
  · simp only [decide_eq_false_iff_not, hc] at h2
    have hle : nv xs ≤ nv ys := by unfold cmpN at h2; split at h2 <;> (try split at h2) <;> omega
    have hlm := dg_len_mono hle
    rw [← gx, ← gy] at hlm
    have hl2 := dg_len_mono (show nv ys - nv xs ≤ nv ys by omega)
    rw [← gy] at hl2
    obtain ⟨s1, s2, s3⟩ := sig_small yn (show (dg (nv ys - nv xs)).length ≤ 400 by omega)
    obtain ⟨e1, e2⟩ := add_diff (xn := yn) (yn := xn) (by simp at h; exact fun k => h k.symm) hle
    rw [(madeN_dg yn (nv ys - nv xs)).1, Int.add_comm] at e1
    rw [(madeN_dg yn (nv ys - nv xs)).2, Int.add_comm] at e2
    rw [s1, s2, s3, e1, e2]
    rw [e2] at hl2
    exact ⟨⟨⟨by omega, hlm, dy, dx⟩, hle⟩, by omega, ⟨rfl, rfl, rfl⟩, rfl⟩
def ent_isum : Ent := fun ds => match ds with
  | [.agg [.v (.bool xn), .ro n_xs ys_xs], .v (.bool yn), .ro n_ys ys_ys] => some (.tup [d_int (decide (iv xn (unu ys_xs) + iv yn (unu ys_ys) < 0)) (ofL (iv xn (unu ys_xs) + iv yn (unu ys_ys))), .v (.int .i64 0)], (ys_ys = u32s (unu ys_ys) ∧ n_ys = (unu ys_ys).length) ∧ (ys_xs = u32s (unu ys_xs) ∧ n_xs = (unu ys_xs).length) ∧ ((unu ys_xs) = dg (nv (unu ys_xs)) ∧ (unu ys_xs).length ≤ 200) ∧ (unu ys_ys) = dg (nv (unu ys_ys)) ∧ (unu ys_ys).length ≤ 200)
  | _ => none
theorem ent_isum_ok : EntOk Try.prog 67 ent_isum := by
  intro ds d c h hc; unfold ent_isum at h; split at h
  · rename_i xn n_xs ys_xs yn n_ys ys_ys; obtain ⟨rfl, rfl⟩ := pair_inj h
    obtain ⟨⟨h1, h2⟩, hc⟩ := hc; subst h2; generalize (unu ys_ys) = ys at *; subst h1
    obtain ⟨⟨h1, h2⟩, hc⟩ := hc; subst h2; generalize (unu ys_xs) = xs at *; subst h1
    exact isum_pure _ xs _ ys hc
  · cases h
theorem iAdd_pure (xn : Bool) (xs : List Nat) (yn : Bool) (ys : List Nat) (hpre : (Good xn xs ∧ xs.length ≤ 200) ∧ Good yn ys ∧ ys.length ≤ 200) : PureJ Try.prog 29 [.agg [.v (.bool xn), .ro xs.length (u32s xs)], .agg [.v (.bool yn), .ro ys.length (u32s ys)]] (.tup [d_int (decide (iv xn xs + iv yn ys < 0)) (ofL (iv xn xs + iv yn ys)), .v (.int .i64 0)]) := by
  refine pureJ_of_vcx (call := (addPure 33 ent_iValid (addPure 67 ent_isum noCalls))) (lp := fun _ => none) (N := 10) T_ok mixed (addPure_ok ent_iValid_ok (addPure_ok ent_isum_ok noCalls_ok)) Try.func29 rfl (by decide) (by kernel_rfl) (by kernel_rfl) (LpAll.none _) (by first | trivial | (simp only [NamelessL, Nameless, and_self, and_true, true_and]; done) | (simp [NamelessL, Nameless, u32s_nameless, namelessL_ints, d_int]; done)) (by first | trivial | (simp only [NamelessL, Nameless, and_self, and_true, true_and]; done) | (simp [NamelessL, Nameless, u32s_nameless, namelessL_ints, d_int]; done)) ?_
  refine of_eq (B := letI z2 := ((2 : Nat) ≤ (2 : Nat)); letI z11 := (((2 : Nat) = (2 : Nat)) ∧ z2); letI z7 := ((True ∧ (True ∧ True)) ∧ (True ∧ True)); letI z9 := ((iv xn xs) + (iv yn ys)); letI z10 := (D.v (Value.int IntKind.i64 (0 : Int))); letI z1 := (D.tup [(D.agg [(D.v (Value.bool (Decidable.decide (z9 < (0 : Int))))), (D.ro (List.length (ofL z9)) (u32s (ofL z9)))]), z10]); letI z0 := (True ∧ (z11 ∧ (True ∧ ((z2 ∧ True) ∧ (z7 ∧ ((D.tup [(D.agg [(D.v (Value.bool Bool.false)), (D.v (Value.slice (Option.none) (0 : Nat) (0 : Nat)))]), (D.v (Value.int IntKind.i64 (1 : Int)))]) = z1)))))); letI z3 := (unu (u32s xs)); letI z4 := (unu (u32s ys)); letI z12 := List.length z3; letI z5 := (((u32s xs) = (u32s z3)) ∧ ((List.length xs) = z12)); letI z13 := List.length z4; letI z6 := (((u32s ys) = (u32s z4)) ∧ ((List.length ys) = z13)); letI z8 := ((iv xn z3) + (iv yn z4)); letI z14 := (1000000000000 : Nat); (True ∧ (True ∧ (True ∧ (True ∧ (z2 ∧ ((z5 ∧ (z12 ≤ z14)) ∧ (True ∧ (True ∧ (pcond (!(validL xn z3)) (True ∧ z0) (z2 ∧ ((z6 ∧ (z13 ≤ z14)) ∧ (True ∧ (True ∧ (pcond (!(validL yn z4)) z0 (z2 ∧ (True ∧ ((((0 : Nat) < (2 : Nat)) ∧ (IsBool (D.v (Value.bool yn)))) ∧ (True ∧ (((1 : Nat) < (2 : Nat)) ∧ ((z6 ∧ (z5 ∧ (((z3 = (dg (nv z3))) ∧ (z12 ≤ (200 : Nat))) ∧ ((z4 = (dg (nv z4))) ∧ (z13 ≤ (200 : Nat)))))) ∧ (True ∧ (True ∧ (z11 ∧ (True ∧ ((z2 ∧ True) ∧ (z7 ∧ ((D.tup [(D.agg [(D.v (Value.bool (Decidable.decide (z8 < (0 : Int))))), (D.ro (List.length (ofL z8)) (u32s (ofL z8)))]), z10]) = z1)))))))))))))))))))))))))))) (by kernel_rfl) ?_
  simp only [true_and, and_true, and_self, IsInt_lit, IsBool_lit, IsStr_lit, Bool.not_eq_true', Bool.not_eq_false', Bool.not_true, Bool.not_false, Int.reduceLE, Int.reduceLT, Int.reduceNeg, Nat.le_refl, Int.le_refl, Nat.reduceLT, Nat.reduceLeDiff, Nat.reduceEqDiff, D.v.injEq, D.tup.injEq, D.agg.injEq, D.ro.injEq, List.cons.injEq, Value.int.injEq, Value.bool.injEq, pcond_true, pcond_false, NamelessL, Nameless, Nat.reduceMul, Nat.reduceAdd, Nat.zero_add, Int.toNat_natCast, unu_u32s]
  obtain ⟨⟨gx, lx⟩, gy, ly⟩ := hpre
  rw [good_valid gx (by omega), good_valid gy (by omega)]
  exact ⟨by omega, by omega, ⟨gx.1, lx⟩, gy.1, ly⟩
def ent_iAdd : Ent := fun ds => match ds with
  | [.agg [.v (.bool xn), .ro n_xs ys_xs], .agg [.v (.bool yn), .ro n_ys ys_ys]] => some (.tup [d_int (decide (iv xn (unu ys_xs) + iv yn (unu ys_ys) < 0)) (ofL (iv xn (unu ys_xs) + iv yn (unu ys_ys))), .v (.int .i64 0)], (ys_ys = u32s (unu ys_ys) ∧ n_ys = (unu ys_ys).length) ∧ (ys_xs = u32s (unu ys_xs) ∧ n_xs = (unu ys_xs).length) ∧ (Good xn (unu ys_xs) ∧ (unu ys_xs).length ≤ 200) ∧ Good yn (unu ys_ys) ∧ (unu ys_ys).length ≤ 200)
  | _ => none
theorem ent_iAdd_ok : EntOk Try.prog 29 ent_iAdd := by
  intro ds d c h hc; unfold ent_iAdd at h; split at h
  · rename_i xn n_xs ys_xs yn n_ys ys_ys; obtain ⟨rfl, rfl⟩ := pair_inj h
    obtain ⟨⟨h1, h2⟩, hc⟩ := hc; subst h2; generalize (unu ys_ys) = ys at *; subst h1
    obtain ⟨⟨h1, h2⟩, hc⟩ := hc; subst h2; generalize (unu ys_xs) = xs at *; subst h1
    exact iAdd_pure _ xs _ ys hc
  · cases h
theorem lsum_pure (xn : Bool) (xs : List Nat) (yn : Bool) (ys : List Nat) (hpre : (Good xn xs ∧ xs.length ≤ 200) ∧ Good yn ys ∧ ys.length ≤ 200) : PureJ Try.prog 22 [.agg [.v (.bool xn), .ro xs.length (u32s xs)], .agg [.v (.bool yn), .ro ys.length (u32s ys)]] (d_int (decide (iv xn xs + iv yn ys < 0)) (ofL (iv xn xs + iv yn ys))) := by
  refine pureJ_of_vcx (call := (addPure 29 ent_iAdd noCalls)) (lp := fun _ => none) (N := 10) T_ok mixed (addPure_ok ent_iAdd_ok noCalls_ok) Try.func22 rfl (by decide) (by kernel_rfl) (by kernel_rfl) (LpAll.none _) (by first | trivial | (simp only [NamelessL, Nameless, and_self, and_true, true_and]; done) | (simp [NamelessL, Nameless, u32s_nameless, namelessL_ints, d_int]; done)) (by first | trivial | (simp only [NamelessL, Nameless, and_self, and_true, true_and]; done) | (simp [NamelessL, Nameless, u32s_nameless, namelessL_ints, d_int]; done)) ?_
  refine of_eq (B := letI z0 := ((2 : Nat) ≤ (2 : Nat)); letI z3 := (unu (u32s xs)); letI z2 := (unu (u32s ys)); letI z1 := ((iv xn z3) + (iv yn z2)); letI z4 := ((iv xn xs) + (iv yn ys)); letI z5 := (((2 : Nat) = (2 : Nat)) ∧ z0); (True ∧ (True ∧ (True ∧ (z0 ∧ (z0 ∧ (((((u32s ys) = (u32s z2)) ∧ ((List.length ys) = (List.length z2))) ∧ ((((u32s xs) = (u32s z3)) ∧ ((List.length xs) = (List.length z3))) ∧ (((Good xn z3) ∧ ((List.length z3) ≤ (200 : Nat))) ∧ ((Good yn z2) ∧ ((List.length z2) ≤ (200 : Nat)))))) ∧ (True ∧ (True ∧ (True ∧ (True ∧ (z5 ∧ (True ∧ (z0 ∧ (z5 ∧ ((z0 ∧ True) ∧ ((True ∧ (True ∧ True)) ∧ ((D.agg [(D.v (Value.bool (Decidable.decide (z1 < (0 : Int))))), (D.ro (List.length (ofL z1)) (u32s (ofL z1)))]) = (D.agg [(D.v (Value.bool (Decidable.decide (z4 < (0 : Int))))), (D.ro (List.length (ofL z4)) (u32s (ofL z4)))]))))))))))))))))))) (by kernel_rfl) ?_
  simp only [true_and, and_true, and_self, IsInt_lit, IsBool_lit, IsStr_lit, Bool.not_eq_true', Bool.not_eq_false', Bool.not_true, Bool.not_false, Int.reduceLE, Int.reduceLT, Int.reduceNeg, Nat.le_refl, Int.le_refl, Nat.reduceLT, Nat.reduceLeDiff, Nat.reduceEqDiff, D.v.injEq, D.tup.injEq, D.agg.injEq, D.ro.injEq, List.cons.injEq, Value.int.injEq, Value.bool.injEq, pcond_true, pcond_false, NamelessL, Nameless, Nat.reduceMul, Nat.reduceAdd, Nat.zero_add, Int.toNat_natCast, unu_u32s]
  exact hpre
def ent_lsum : Ent := fun ds => match ds with
  | [.agg [.v (.bool xn), .ro n_xs ys_xs], .agg [.v (.bool yn), .ro n_ys ys_ys]] => some (d_int (decide (iv xn (unu ys_xs) + iv yn (unu ys_ys) < 0)) (ofL (iv xn (unu ys_xs) + iv yn (unu ys_ys))), (ys_ys = u32s (unu ys_ys) ∧ n_ys = (unu ys_ys).length) ∧ (ys_xs = u32s (unu ys_xs) ∧ n_xs = (unu ys_xs).length) ∧ (Good xn (unu ys_xs) ∧ (unu ys_xs).length ≤ 200) ∧ Good yn (unu ys_ys) ∧ (unu ys_ys).length ≤ 200)
  | _ => none
theorem ent_lsum_ok : EntOk Try.prog 22 ent_lsum := by
  intro ds d c h hc; unfold ent_lsum at h; split at h
  · rename_i xn n_xs ys_xs yn n_ys ys_ys; obtain ⟨rfl, rfl⟩ := pair_inj h
    obtain ⟨⟨h1, h2⟩, hc⟩ := hc; subst h2; generalize (unu ys_ys) = ys at *; subst h1
    obtain ⟨⟨h1, h2⟩, hc⟩ := hc; subst h2; generalize (unu ys_xs) = xs at *; subst h1
    exact lsum_pure _ xs _ ys hc
  · cases h
theorem small_false (w : Int) (h0 : 0 ≤ w) : pcond (decide (w < 9223372036854775808)) ((IntKind.i64.wrap w = if fitsI w = true then w else 0) ∧ true = fitsI w) ((0 = if fitsI w = true then w else 0) ∧ false = fitsI w) := by
  have e : fitsI w = decide (w < 9223372036854775808) := by
    unfold fitsI
    rw [Bool.eq_iff_iff]; simp only [Bool.and_eq_true, decide_eq_true_eq]; omega
  rw [e]
  refine pcond_intro (fun h => ?_) (fun h => ?_)
  · rw [h, wrap_i64_of (by omega) (of_decide_eq_true h)]; exact ⟨rfl, rfl⟩
  · rw [h]; exact ⟨rfl, rfl⟩
theorem small_true (w : Int) (h0 : 0 ≤ w) (h1 : w < 18446744073709551616) (v : Int) (hv : v = -w) (Z : Prop) : pcond (decide (w ≤ 9223372036854775808)) ((IntKind.i64.wrap (IntKind.u64.wrap (0 - w)) = if fitsI v = true then v else 0) ∧ true = fitsI v) ((0 = if fitsI v = true then v else 0) ∧ false = fitsI v) := by
  subst hv
  have e : fitsI (-w) = decide (w ≤ 9223372036854775808) := by
    unfold fitsI
    rw [Bool.eq_iff_iff]; simp only [Bool.and_eq_true, decide_eq_true_eq]; omega
  rw [e]
  refine pcond_intro (fun h => ?_) (fun h => ?_)
  · have h2 := of_decide_eq_true h
    have e : IntKind.i64.wrap (IntKind.u64.wrap (0 - w)) = -w := by rw [wrap_u64, IntKind.wrap_i64]; omega
    rw [h, e]; exact ⟨rfl, rfl⟩
  · rw [h]; exact ⟨rfl, rfl⟩
theorem iCompare_pure (xn : Bool) (xs : List Nat) (yn : Bool) (ys : List Nat) (hpre : xs.length ≤ 1000000000000 ∧ ys.length ≤ 1000000000000) : PureJ Try.prog 25 [.agg [.v (.bool xn), .ro xs.length (u32s xs)], .agg [.v (.bool yn), .ro ys.length (u32s ys)]] (.v (.int .i64 (cmpI xn xs yn ys))) := by
  refine pureJ_of_vcx (call := (addPure 33 ent_iValid (addPure 65 ent_icompare noCalls))) (lp := fun _ => none) (N := 10) T_ok mixed (addPure_ok ent_iValid_ok (addPure_ok ent_icompare_ok noCalls_ok)) Try.func25 rfl (by decide) (by kernel_rfl) (by kernel_rfl) (LpAll.none _) (by first | trivial | (simp only [NamelessL, Nameless, and_self, and_true, true_and]; done) | (simp [NamelessL, Nameless, u32s_nameless, namelessL_ints]; done)) (by first | trivial | (simp only [NamelessL, Nameless, and_self, and_true, true_and]; done) | (simp [NamelessL, Nameless, u32s_nameless, namelessL_ints]; done)) ?_
  refine of_eq (B := letI z7 := ((0 : Nat) < (2 : Nat)); letI z10 := (z7 ∧ (IsBool (D.v (Value.bool xn)))); letI z1 := (D.v (Value.int IntKind.i64 (cmpI xn xs yn ys))); letI z11 := (z7 ∧ (IsBool (D.v (Value.bool yn)))); letI z8 := ((1 : Nat) < (2 : Nat)); letI z6 := (unu (u32s ys)); letI z3 := (((u32s ys) = (u32s z6)) ∧ ((List.length ys) = (List.length z6))); letI z5 := (unu (u32s xs)); letI z2 := (((u32s xs) = (u32s z5)) ∧ ((List.length xs) = (List.length z5))); letI z9 := (1000000000000 : Nat); letI z12 := (z2 ∧ ((List.length z5) ≤ z9)); letI z0 := (True ∧ (z10 ∧ (True ∧ (pcond xn (True ∧ (True ∧ (True ∧ ((D.v (Value.int IntKind.i64 (-(1 : Int)))) = z1)))) (True ∧ (z11 ∧ (True ∧ (pcond yn (True ∧ (True ∧ (True ∧ ((D.v (Value.int IntKind.i64 (1 : Int))) = z1)))) (True ∧ (z8 ∧ (True ∧ (z8 ∧ ((z3 ∧ z12) ∧ (True ∧ (True ∧ (True ∧ ((D.v (Value.int IntKind.i64 (cmpL z5 z6))) = z1))))))))))))))))); letI z4 := (True ∧ (True ∧ (True ∧ ((D.v (Value.int IntKind.i64 (0 : Int))) = z1)))); letI z13 := (z3 ∧ ((List.length z6) ≤ z9)); letI z14 := ((2 : Nat) ≤ (2 : Nat)); (True ∧ (True ∧ (True ∧ (z14 ∧ (z12 ∧ (True ∧ (True ∧ (pcond (!(validL xn z5)) (True ∧ z4) (z14 ∧ (z13 ∧ (True ∧ (True ∧ (pcond (!(validL yn z6)) z4 (True ∧ (z10 ∧ (True ∧ (pcond xn (True ∧ (z11 ∧ (True ∧ (True ∧ (pcond yn (True ∧ (z8 ∧ (True ∧ (z8 ∧ ((z2 ∧ z13) ∧ (True ∧ (True ∧ (True ∧ ((D.v (Value.int IntKind.i64 (cmpL z6 z5))) = z1))))))))) z0))))) (True ∧ (True ∧ z0)))))))))))))))))))) (by kernel_rfl) ?_
  simp only [true_and, and_true, and_self, IsInt_lit, IsBool_lit, IsStr_lit, Bool.not_eq_true', Bool.not_eq_false', Bool.not_true, Bool.not_false, Int.reduceLE, Int.reduceLT, Int.reduceNeg, Nat.le_refl, Int.le_refl, Nat.reduceLT, Nat.reduceLeDiff, Nat.reduceEqDiff, D.v.injEq, D.tup.injEq, D.agg.injEq, D.ro.injEq, List.cons.injEq, Value.int.injEq, Value.bool.injEq, pcond_true, pcond_false, NamelessL, Nameless, Nat.reduceMul, Nat.reduceAdd, Nat.zero_add, Int.toNat_natCast, unu_u32s]
  obtain ⟨hp, hq⟩ := hpre
  cases xn <;> cases yn <;> refine ⟨hp, pcond_intro (fun h => ?_) (fun h => ⟨hq, pcond_intro (fun h1 => ?_) (fun h1 => ?_)⟩)⟩ <;> simp_all [cmpI, pcond]
def ent_iCompare : Ent := fun ds => match ds with
  | [.agg [.v (.bool xn), .ro n_xs ys_xs], .agg [.v (.bool yn), .ro n_ys ys_ys]] => some (.v (.int .i64 (cmpI xn (unu ys_xs) yn (unu ys_ys))), (ys_ys = u32s (unu ys_ys) ∧ n_ys = (unu ys_ys).length) ∧ (ys_xs = u32s (unu ys_xs) ∧ n_xs = (unu ys_xs).length) ∧ (unu ys_xs).length ≤ 1000000000000 ∧ (unu ys_ys).length ≤ 1000000000000)
  | _ => none
theorem ent_iCompare_ok : EntOk Try.prog 25 ent_iCompare := by
  intro ds d c h hc; unfold ent_iCompare at h; split at h
  · rename_i xn n_xs ys_xs yn n_ys ys_ys; obtain ⟨rfl, rfl⟩ := pair_inj h
    obtain ⟨⟨h1, h2⟩, hc⟩ := hc; subst h2; generalize (unu ys_ys) = ys at *; subst h1
    obtain ⟨⟨h1, h2⟩, hc⟩ := hc; subst h2; generalize (unu ys_xs) = xs at *; subst h1
    exact iCompare_pure _ xs _ ys hc
  · cases h
theorem known_pure : PureJ Try.prog 11 [] (.v (.bool true)) :=
  pure_of_ev T_ok mixed (base := fun _ _ _ => none) (fun _ _ _ _ _ _ h => by cases h) (N := 1000) (n := 50) Try.func11 rfl (by kernel_rfl)
def ent_known : Ent := fun ds => match ds with
  | [] => some (.v (.bool true), True)
  | _ => none
theorem ent_known_ok : EntOk Try.prog 11 ent_known := by
  intro ds d c h hc; unfold ent_known at h; split at h
  · obtain ⟨rfl, rfl⟩ := pair_inj h; exact known_pure
  · cases h
end Go.Proofs.Ythnhfkpihbjddaa
end
section
namespace Go.Proofs.Ythnhfkpihbjddaa
open Go.VD
set_option linter.unusedVariables false
set_option linter.unusedSimpArgs false
set_option maxRecDepth 100000
def d_at (off n : Nat) : D := .sl 0 off n (.exact n 1)
def d_blk2 (o : List Nat) : Heap := [some ⟨41, u32s o, true⟩]
def lp_addTimes (off : Nat) (zs ys : List Nat) (k : Nat) : LoopO := loopRuleD (α := Nat) (β := Unit) (fun i => i ≤ ys.length)
  (fun i => [(0, d_at off ys.length), (1, .ro ys.length (u32s ys)), (2, .v (.int .u32 (k : Int))), (7, .v (.int .u64 (carT off zs ys k i : Nat))), (11, .ro ys.length (u32s ys)), (12, .v (.int .i64 (ys.length : Int))), (13, .v (.int .i64 (i : Int)))])
  (fun i => d_blk2 (addT off zs ys k i)) 0 (fun _ => True) (fun _ => (.exit 0, [(7, .v (.int .u64 (carT off zs ys k ys.length : Nat)))], d_blk2 (addT off zs ys k ys.length)))
theorem addTimes_rule (off : Nat) (zs ys : List Nat) (k : Nat) (hpre : (off + ys.length ≤ zs.length ∧ zs.length ≤ 1000000) ∧ (Dig zs ∧ Dig ys) ∧ k < 4294967296) : LRule Try.prog Try.f109.ntmps (loopAt ((Try.f109.body).getD .skip) 3) (lp_addTimes off zs ys k) := by
  refine lruleD_of (α := Nat) (β := Unit) (call := noCalls) (lp := fun _ => none) (N := 10) T_ok mixed noCalls_ok (fun i => ys.length - i) (by kernel_rfl) (LpAll.none _) ?_
  intro i hJ
  refine of_eq (B := letI z9 := ((i : Nat) : Int); letI z1 := ((Int.toNat z9) * (1 : Nat)); letI z11 := (List.getD (u32s ys) z1 (Inhabited.default)); letI z4 := (u32s (addT off zs ys k i)); letI z10 := (List.getD z4 (off + z1) (Inhabited.default)); letI z12 := (((carT off zs ys k i) : Nat) : Int); letI z0 := (IntKind.wrap IntKind.u64 ((IntKind.wrap IntKind.u64 ((IntKind.wrap IntKind.u64 ((IntKind.wrap IntKind.u64 (cellInt z11)) * (IntKind.wrap IntKind.u64 ((k : Nat) : Int)))) + (IntKind.wrap IntKind.u64 (cellInt z10)))) + z12)); letI z2 := List.length ys; letI z13 := ((z2 : Nat) : Int); letI z3 := (((0 : Int) ≤ z9) ∧ (z9 < z13)); letI z5 := (Option.some (D.ro z2 (u32s ys))); letI z6 := (Option.some (D.sl (0 : Nat) off z2 (Cap.exact z2 (1 : Nat)))); letI z7 := (Option.some (D.v (Value.int IntKind.i64 z13))); letI z8 := (Option.some (D.v (Value.int IntKind.u32 ((k : Nat) : Int)))); letI z14 := (Exit.exit (0 : Nat)); (True ∧ (pcond (Decidable.decide (z9 < z13)) (True ∧ (z3 ∧ (((z1 < (List.length (u32s ys))) ∧ (IsInt IntKind.u32 z11)) ∧ (True ∧ (True ∧ (True ∧ (True ∧ (True ∧ (True ∧ (True ∧ (True ∧ (True ∧ (z3 ∧ ((((off + z1) < (List.length z4)) ∧ (IsInt IntKind.u32 z10)) ∧ (True ∧ (True ∧ (True ∧ (True ∧ (True ∧ (True ∧ (True ∧ (True ∧ (True ∧ (True ∧ (((0 : Int) ≤ (32 : Int)) ∧ (z3 ∧ ((((1 : Nat) = (1 : Nat)) ∧ (((off + z1) + (1 : Nat)) ≤ (List.length z4))) ∧ (True ∧ (True ∧ (True ∧ (∃ (y : Nat), (((z2 - y) < (z2 - i)) ∧ ((y ≤ z2) ∧ (((z6 = z6) ∧ ((z5 = z5) ∧ ((z8 = z8) ∧ (((Option.some (D.v (Value.int IntKind.u64 (Int.fdiv z0 (4294967296 : Int))))) = (Option.some (D.v (Value.int IntKind.u64 (((carT off zs ys k y) : Nat) : Int))))) ∧ ((z5 = z5) ∧ ((z7 = z7) ∧ (((Option.some (D.v (Value.int IntKind.i64 (IntKind.wrap IntKind.i64 (z9 + (1 : Int)))))) = (Option.some (D.v (Value.int IntKind.i64 ((y : Nat) : Int))))) ∧ True))))))) ∧ ([(Option.some (Blk.mk (41 : Nat) (List.set z4 (off + z1) (D.v (Value.int IntKind.u32 (IntKind.wrap IntKind.u32 z0)))) Bool.true))] = [(Option.some (Blk.mk (41 : Nat) (u32s (addT off zs ys k y)) Bool.true))]))))))))))))))))))))))))))))))))))) (∃ (r : Unit), (True ∧ ((z14 = z14) ∧ ((((Option.some (D.v (Value.int IntKind.u64 z12))) = (Option.some (D.v (Value.int IntKind.u64 (((carT off zs ys k z2) : Nat) : Int))))) ∧ True) ∧ ([(Option.some (Blk.mk (41 : Nat) z4 Bool.true))] = [(Option.some (Blk.mk (41 : Nat) (u32s (addT off zs ys k z2)) Bool.true))])))))))) (by kernel_rfl) ?_
  simp only [true_and, and_true, and_self, IsInt_lit, IsBool_lit, IsStr_lit, Bool.not_eq_true', Bool.not_eq_false', Bool.not_true, Bool.not_false, Int.reduceLE, Int.reduceLT, Int.reduceNeg, Nat.le_refl, Int.le_refl, Nat.reduceLT, Nat.reduceLeDiff, Nat.reduceEqDiff, D.v.injEq, D.tup.injEq, D.agg.injEq, D.ro.injEq, List.cons.injEq, Value.int.injEq, Value.bool.injEq, pcond_true, pcond_false, NamelessL, Nameless, Nat.reduceMul, Nat.reduceAdd, Nat.zero_add, Int.toNat_natCast]
  obtain ⟨⟨hl, hb⟩, ⟨hz, hy⟩, hk⟩ := hpre
  refine pcond_intro (fun h => ?_) (fun h => ?_)
  · simp only [decide_eq_true_eq] at h
    have h : i < ys.length := by omega
    have g := addT_get (ys := ys) (k := k) (show off + i < zs.length by omega)
    have hlen := addT_length (ys := ys) (k := k) (show off + i ≤ zs.length by omega)
    have ht := tstep (hy.get i) hk (hz.get (off + i)) (carT_lt (k := k) hz hy hk (show off + i ≤ zs.length by omega) hJ)
    have hs := addT_set (k := k) (show off + i < zs.length by omega) h
    have hc := carT_succ (k := k) (show off + i < zs.length by omega) h
    simp only [Nat.mul_one, u32s_cell, u32s_length, hlen, g, ht, u32s_isInt ys i h, u32s_isInt (addT off zs ys k i) (off + i) (by omega), and_true]
    generalize ys.getD i 0 * k + zs.getD (off + i) 0 + carT off zs ys k i = t at *
    have e1 : (t : Int).fdiv 4294967296 = ((t / 4294967296 : Nat) : Int) := by rw [Int.fdiv_eq_ediv_of_nonneg _ (by omega)]; omega
    have e2 : IntKind.u32.wrap (t : Int) = ((t % 4294967296 : Nat) : Int) := by rw [wrap_u32]; omega
    refine ⟨⟨by omega, by omega⟩, by omega, ⟨by omega, by omega⟩, by omega, ⟨by omega, by omega⟩, by omega, i + 1, by omega, by omega, ⟨?_, ?_⟩, ?_⟩
    · rw [e1, hc]
    · rw [wrap_i64_of (by omega) (by omega)]; simp
    · rw [e2, u32s_put, hs]
  · simp only [decide_eq_false_iff_not] at h
    have h : i = ys.length := by omega
    subst h
    exact ⟨(), rfl, rfl⟩
theorem addTimes_mut (off : Nat) (zs ys : List Nat) (k : Nat) (hpre : (off + ys.length ≤ zs.length ∧ zs.length ≤ 1000000) ∧ (Dig zs ∧ Dig ys) ∧ k < 4294967296) : MutJ Try.prog 109 off ys.length (.exact ys.length 1) [.ro ys.length (u32s ys), .v (.int .u32 (k : Int))] ⟨41, u32s zs, true⟩ (.v (.int .u32 (carT off zs ys k ys.length : Nat))) ⟨41, u32s (addT off zs ys k ys.length), true⟩ := by
  refine mutJ_of_vcx (call := noCalls) (lp := fun k' => bif Nat.beq k' 3 then some (lp_addTimes off zs ys k) else none) (N := 10) T_ok mixed noCalls_ok Try.func109 rfl (by decide) (by kernel_rfl) (by kernel_rfl)
    (of_eq (B := LRule Try.prog Try.f109.ntmps (loopAt ((Try.f109.body).getD .skip) 3) (lp_addTimes off zs ys k) ∧ True) (by kernel_rfl) ⟨addTimes_rule off zs ys k hpre, trivial⟩) (by simp [NamelessL, Nameless, u32s_nameless]) (by simp [Nameless]) (u32s_nameless _) (u32s_nameless _) ?_
  refine of_eq (B := letI z0 := List.length ys; letI z1 := (Option.some (D.ro z0 (u32s ys))); letI z2 := (Option.some (Blk.mk (41 : Nat) (u32s (addT off zs ys k z0)) Bool.true)); letI z3 := (Option.some (D.sl (0 : Nat) off z0 (Cap.exact z0 (1 : Nat)))); letI z4 := (Option.some (D.v (Value.int IntKind.i64 ((z0 : Nat) : Int)))); letI z5 := (Option.some (D.v (Value.int IntKind.u32 ((k : Nat) : Int)))); letI z6 := (Option.some (D.v (Value.int IntKind.i64 (0 : Int)))); letI z7 := (((carT off zs ys k z0) : Nat) : Int); (True ∧ (True ∧ (True ∧ (True ∧ (True ∧ (((0 : Nat) ≤ z0) ∧ (((z3 = z3) ∧ ((z1 = z1) ∧ ((z5 = z5) ∧ (((Option.some (D.v (Value.int IntKind.u64 (0 : Int)))) = (Option.some (D.v (Value.int IntKind.u64 (((carT off zs ys k (0 : Nat)) : Nat) : Int))))) ∧ ((z1 = z1) ∧ ((z4 = z4) ∧ ((z6 = z6) ∧ True))))))) ∧ (([(Option.some (Blk.mk (41 : Nat) (u32s zs) Bool.true))] = [(Option.some (Blk.mk (41 : Nat) (u32s (addT off zs ys k (0 : Nat))) Bool.true))]) ∧ (Unit → (True → (True ∧ (True ∧ (True ∧ (True ∧ (((D.v (Value.int IntKind.u32 (IntKind.wrap IntKind.u32 z7))) = (D.v (Value.int IntKind.u32 z7))) ∧ ([z2] = [z2]))))))))))))))))) (by kernel_rfl) ?_
  simp only [true_and, and_true, and_self, IsInt_lit, IsBool_lit, IsStr_lit, Bool.not_eq_true', Bool.not_eq_false', Bool.not_true, Bool.not_false, Int.reduceLE, Int.reduceLT, Int.reduceNeg, Nat.le_refl, Int.le_refl, Nat.reduceLT, Nat.reduceLeDiff, Nat.reduceEqDiff, D.v.injEq, D.tup.injEq, D.agg.injEq, D.ro.injEq, List.cons.injEq, Value.int.injEq, Value.bool.injEq, pcond_true, pcond_false, NamelessL, Nameless, Nat.reduceMul, Nat.reduceAdd, Nat.zero_add, Int.toNat_natCast]
  obtain ⟨e1, e2⟩ := addT_nil off zs ys k
  obtain ⟨⟨hl, hb⟩, ⟨hz, hy⟩, hk⟩ := hpre
  have hc := carT_lt (k := k) hz hy hk hl (Nat.le_refl _)
  refine ⟨Nat.zero_le _, by rw [e2]; rfl, by rw [e1], fun _ _ => ?_⟩
  rw [wrap_u32]; omega
def entm_addTimes : EntM := fun off n c plain blk => match c, plain, blk with
  | .exact cap 1, [.ro m ys, .v (.int .u32 k)], ⟨ty, cs, full⟩ => some (.v (.int .u32 (carT off (unu cs) (unu ys) k.toNat (unu ys).length : Nat)), ⟨ty, u32s (addT off (unu cs) (unu ys) k.toNat (unu ys).length), full⟩,
      ((ty = 41 ∧ full = true) ∧ (cs = u32s (unu cs) ∧ ys = u32s (unu ys))) ∧ ((cap = n ∧ n = (unu ys).length ∧ m = (unu ys).length) ∧ 0 ≤ k ∧ k < 4294967296) ∧ (off + (unu ys).length ≤ (unu cs).length ∧ (unu cs).length ≤ 1000000) ∧ Dig (unu cs) ∧ Dig (unu ys))
  | _, _, _ => none
theorem entm_addTimes_ok : EntMOk Try.prog 109 entm_addTimes := by
  intro off n c plain blk d blk' p h hp
  unfold entm_addTimes at h
  split at h
  · rename_i cap m ys k ty cs full
    simp only [Option.some.injEq, Prod.mk.injEq] at h
    obtain ⟨rfl, rfl, rfl⟩ := h
    obtain ⟨⟨⟨rfl, rfl⟩, hcs, hys⟩, ⟨⟨rfl, hn, hm⟩, hk0, hk⟩, hl, hz, hy⟩ := hp
    obtain ⟨k, rfl⟩ := Int.eq_ofNat_of_zero_le hk0
    generalize unu cs = zs at *
    generalize unu ys = yl at *
    subst hcs; subst hys; subst hn; subst hm
    simp only [Int.ofNat_eq_natCast, Int.toNat_natCast] at *
    exact addTimes_mut off zs yl k ⟨hl, ⟨hz, hy⟩, by omega⟩
  · cases h
def lp_multLoop (xs ys : List Nat) : LoopO := loopRule (α := Nat × List Nat) (β := List Nat) [some 0] (fun s => (s.1 ≤ xs.length ∧ s.2.length = xs.length + ys.length ∧ Dig s.2) ∧ nv s.2 = nv (xs.take s.1) * nv ys ∧ nv (s.2.drop (s.1 + ys.length)) = 0) (fun s => [(0, .ro xs.length (u32s xs)), (1, .ro ys.length (u32s ys)), (5, d_out (xs.length + ys.length)), (14, .ro xs.length (u32s xs)), (15, .v (.int .i64 (xs.length : Int))), (16, .v (.int .i64 (s.1 : Int)))]) (fun s => d_blk s.2) ((0, List.replicate (xs.length + ys.length) 0)) (fun r => r.length = xs.length + ys.length ∧ Dig r ∧ nv r = nv xs * nv ys) (fun r => (.exit 0, [(5, d_out (xs.length + ys.length))], d_blk r))
theorem multLoop_rule (xs ys : List Nat) (hpre : xs.length ≤ 400000 ∧ ys.length ≤ 400000 ∧ Dig xs ∧ Dig ys) : LRuleP Try.prog Try.f68.ntmps (loopAt ((Try.f68.body).getD .skip) 3) (lp_multLoop xs ys) := by
  refine lrule_of (α := Nat × List Nat) (β := List Nat) (call := (addMut 109 entm_addTimes noCalls)) (lp := fun _ => none) (N := 10) T_ok mixed (addMut_ok entm_addTimes_ok noCalls_ok) (fun s => xs.length - s.1) (by kernel_rfl) (LpAllP.none _) ?_
  intro x hJ
  refine of_eq (B := letI z3 := (((Prod.fst x) : Nat) : Int); letI z12 := List.length ys; letI z0 := (IntKind.wrap IntKind.i64 (z3 + ((z12 : Nat) : Int))); letI z1 := ((Int.toNat z3) * (1 : Nat)); letI z5 := List.length xs; letI z2 := (z5 + z12); letI z4 := (List.getD (u32s xs) z1 (Inhabited.default)); letI z19 := (u32s (Prod.snd x)); letI z6 := (unu z19); letI z15 := (unu (u32s ys)); letI z7 := (List.length z15); letI z23 := ((0 : Nat) + z1); letI z25 := (Int.toNat (cellInt z4)); letI z8 := (u32s (addT z23 z6 z15 z25 z7)); letI z9 := (Prod.mk (5 : Nat) (D.sl (0 : Nat) (0 : Nat) z2 (Cap.toEnd (1 : Nat)))); letI z10 := Int.toNat z0; letI z20 := ((z5 : Nat) : Int); letI z11 := (Prod.mk (15 : Nat) (D.v (Value.int IntKind.i64 z20))); letI z13 := (Prod.mk (5 : Nat) (d_out z2)); letI z14 := (Exit.exit (0 : Nat)); letI z16 := (D.ro z5 (u32s xs)); letI z17 := (z10 - (Int.toNat z3)); letI z18 := (Prod.mk (1 : Nat) (D.ro z12 (u32s ys))); letI z21 := ((0 : Int) ≤ z0); letI z22 := ((0 : Nat) + (z10 * (1 : Nat))); letI z24 := (Prod.mk (14 : Nat) z16); letI z26 := Bool.true = Bool.true; letI z27 := ((1 : Nat) = (1 : Nat)); letI z28 := (Prod.mk (0 : Nat) z16); letI z29 := ((z10 : Nat) : Int); letI z30 := (List (Option Nat)); (True ∧ (pcond (Decidable.decide (z3 < z20)) (True ∧ ((((0 : Int) ≤ z3) ∧ (z3 < z20)) ∧ (((z1 < (List.length (u32s xs))) ∧ (IsInt IntKind.u32 z4)) ∧ (True ∧ (True ∧ (True ∧ (True ∧ (True ∧ (True ∧ (True ∧ (True ∧ (True ∧ (True ∧ (True ∧ (True ∧ (True ∧ (True ∧ (True ∧ (True ∧ (True ∧ ((((((0 : Int) ≤ z3) ∧ (z3 ≤ z29)) ∧ ((z21 ∧ (z0 ≤ z29)) ∧ (z21 ∧ ((z0 ≤ ((z2 : Nat) : Int)) ∧ z26)))) ∧ z27) ∧ (True ∧ (True ∧ ((((((41 : Nat) = (41 : Nat)) ∧ z26) ∧ ((z19 = (u32s z6)) ∧ ((u32s ys) = (u32s z15)))) ∧ ((((z17 = z17) ∧ ((z17 = z7) ∧ (z12 = z7))) ∧ (((0 : Int) ≤ (cellInt z4)) ∧ ((cellInt z4) < (4294967296 : Int)))) ∧ ((((z23 + z7) ≤ (List.length z6)) ∧ ((List.length z6) ≤ (1000000 : Nat))) ∧ ((Dig z6) ∧ (Dig z15))))) ∧ ((z21 ∧ (z0 < ((z2 : Nat) : Int))) ∧ ((z27 ∧ ((z22 + (1 : Nat)) ≤ (List.length z8))) ∧ (True ∧ (True ∧ (∃ (y : (Prod Nat (List Nat))), (∃ (kp : z30), (((z5 - (Prod.fst y)) < (z5 - (Prod.fst x))) ∧ (((((Prod.fst y) ≤ z5) ∧ (((List.length (Prod.snd y)) = z2) ∧ (Dig (Prod.snd y)))) ∧ (((nv (Prod.snd y)) = ((nv (List.take (Prod.fst y) xs)) * (nv ys))) ∧ ((nv (List.drop ((Prod.fst y) + z12) (Prod.snd y))) = (0 : Nat)))) ∧ (viewAll kp [z28, z18, z9, z24, z11, (Prod.mk (16 : Nat) (D.v (Value.int IntKind.i64 (IntKind.wrap IntKind.i64 (z3 + (1 : Int))))))] [(Option.some (Blk.mk (41 : Nat) (List.set z8 z22 (D.v (Value.int IntKind.u32 (((carT z23 z6 z15 z25 z7) : Nat) : Int)))) Bool.true))] [z28, z18, z13, z24, z11, (Prod.mk (16 : Nat) (D.v (Value.int IntKind.i64 (((Prod.fst y) : Nat) : Int))))] (d_blk (Prod.snd y))))))))))))))))))))))))))))))))))) (∃ (r : (List Nat)), (∃ (kp : z30), ((((List.length r) = z2) ∧ ((Dig r) ∧ ((nv r) = ((nv xs) * (nv ys))))) ∧ ((z14 = z14) ∧ (viewAll kp [z9] [(Option.some (Blk.mk (41 : Nat) z19 Bool.true))] (Prod.fst (Prod.snd ((fun (r_1 : (List Nat)) => (Prod.mk z14 (Prod.mk [z13] (d_blk r_1)))) r))) (Prod.snd (Prod.snd ((fun (r_1 : (List Nat)) => (Prod.mk z14 (Prod.mk [z13] (d_blk r_1)))) r))))))))))) (by kernel_rfl) ?_
  obtain ⟨hbx, hby, hdx, hdy⟩ := hpre
  obtain ⟨i, o⟩ := x
  obtain ⟨⟨hi, hl, ho⟩, he, hz⟩ := hJ
  simp only at hi hl ho he hz
  have hw : IntKind.i64.wrap ((i : Int) + (ys.length : Int)) = ((i + ys.length : Nat) : Int) := by rw [wrap_i64_of (by omega) (by omega)]; omega
  simp only [true_and, and_true, and_self, IsInt_lit, IsBool_lit, IsStr_lit, Bool.not_eq_true', Bool.not_eq_false', Bool.not_true, Bool.not_false, Int.reduceLE, Int.reduceLT, Int.reduceNeg, Nat.le_refl, Int.le_refl, Nat.reduceLT, Nat.reduceLeDiff, Nat.reduceEqDiff, D.v.injEq, D.tup.injEq, D.agg.injEq, D.ro.injEq, List.cons.injEq, Value.int.injEq, Value.bool.injEq, pcond_true, pcond_false, NamelessL, Nameless, Nat.reduceMul, Nat.reduceAdd, Nat.zero_add, Int.toNat_natCast, hw, Nat.mul_one, u32s_length, u32s_cell, unu_u32s, hl]
  refine pcond_intro (fun h => ?_) (fun h => ?_)
  · simp only [decide_eq_true_eq] at h
    have h : i < xs.length := by omega
    have hk := hdx.get i
    have hval := addT_value (k := xs.getD i 0) ho (show i + ys.length < o.length by omega) hz
    have hlen := addT_length (zs := o) (ys := ys) (k := xs.getD i 0) (i := ys.length) (off := i) (by omega)
    have hc := carT_lt (k := xs.getD i 0) (off := i) ho hdy hk (by omega) (Nat.le_refl _)
    have hdr := addT_drop (zs := o) (ys := ys) (k := xs.getD i 0) (i := ys.length) (off := i) (by omega) 1
    have hq := nv_take_succ xs i h
    have hw3 : IntKind.i64.wrap ((i : Int) + 1) = ((i + 1 : Nat) : Int) := by rw [wrap_i64_of (by omega) (by omega)]; omega
    rw [nv_drop_succ] at hz
    simp only [hw3, u32s_put, u32s_isInt xs i h, and_true]
    have hrd := addT_dig (off := i) (ys := ys) (k := xs.getD i 0) (i := ys.length) ho
    generalize carT i o ys (xs.getD i 0) ys.length = c at *
    generalize addT i o ys (xs.getD i 0) ys.length = r at *
    refine ⟨⟨by omega, by omega⟩, h, ⟨⟨by omega, by omega⟩, by omega, by omega, by omega⟩, ⟨⟨by omega, by omega, by omega⟩, ⟨by omega, by omega⟩, ho, hdy⟩, ⟨by omega, by omega⟩, by omega, (i + 1, r.set (i + ys.length) c), [some 0], by simp only; omega, ⟨⟨by simp only; omega, by simp; omega, ?_⟩, ?_, ?_⟩, ?_⟩
    · exact hrd.put _ hc
    · simp only
      rw [hval, hq, Nat.add_mul, ← he]
    · simp only
      rw [List.drop_set_of_lt (by omega), show i + 1 + ys.length = i + ys.length + 1 by omega, hdr]
      omega
    · refine of_eq (B := letI z0 := List.length xs; letI z4 := List.length ys; letI z7 := (u32s (List.set r (i + z4) c)); letI z1 := (Option.some (Blk.mk (41 : Nat) z7 Bool.true)); letI z2 := (D.sl (0 : Nat) (0 : Nat) (z0 + z4) (Cap.toEnd (1 : Nat))); letI z3 := (D.v (Value.int IntKind.i64 (((i + (1 : Nat)) : Nat) : Int))); letI z10 := (D.ro z0 (u32s xs)); letI z5 := (True ∧ (z10 = z10)); letI z6 := (D.v (Value.int IntKind.i64 ((z0 : Nat) : Int))); letI z8 := ([] : List (Option Blk)); letI z9 := (D.ro z4 (u32s ys)); ((Bool.true = Bool.true) ∧ ((((z1 = z1) ∧ (NamelessL z7)) ∧ (z8 = z8)) ∧ (z5 ∧ ((True ∧ (z9 = z9)) ∧ ((True ∧ (z2 = z2)) ∧ (z5 ∧ ((True ∧ (z6 = z6)) ∧ ((True ∧ (z3 = z3)) ∧ True))))))))) (by kernel_rfl) ?_
      simp [u32s_nameless]
  · simp only [decide_eq_false_iff_not] at h
    have hk2 : i = xs.length := by omega
    subst hk2
    refine ⟨o, [some 0], ⟨hl, ho, by simpa using he⟩, ?_⟩
    refine of_eq (B := letI z0 := (D.sl (0 : Nat) (0 : Nat) ((List.length xs) + (List.length ys)) (Cap.toEnd (1 : Nat))); letI z1 := (Option.some (Blk.mk (41 : Nat) (u32s o) Bool.true)); letI z2 := ([] : List (Option Blk)); ((Bool.true = Bool.true) ∧ ((((z1 = z1) ∧ (NamelessL (u32s o))) ∧ (z2 = z2)) ∧ ((True ∧ (z0 = z0)) ∧ True)))) (by kernel_rfl) ?_
    simp [u32s_nameless]
theorem imultiply_pure (xs ys : List Nat) (hpre : xs.length ≤ 400000 ∧ ys.length ≤ 400000 ∧ Dig xs ∧ Dig ys) : PureJ Try.prog 68 [.ro xs.length (u32s xs), .ro ys.length (u32s ys)] (.ro (dg (nv xs * nv ys)).length (u32s (dg (nv xs * nv ys)))) := by
  refine pureJ_of_vcpN (call := (addPure 89 ent_itrim noCalls)) (lp := fun k => bif Nat.beq k 3 then some (lp_multLoop xs ys) else none) (N := 10) T_ok mixed (addPure_ok ent_itrim_ok noCalls_ok) Try.func68 rfl (by decide) (by kernel_rfl) (by kernel_rfl) (of_eq (B := LRuleP Try.prog Try.f68.ntmps (loopAt ((Try.f68.body).getD .skip) 3) (lp_multLoop xs ys) ∧ True) (by kernel_rfl) ⟨multLoop_rule xs ys hpre, trivial⟩) (by first | trivial | (simp only [NamelessL, Nameless, and_self, and_true, true_and]; done) | (simp [NamelessL, Nameless, u32s_nameless, namelessL_ints]; done)) (by first | trivial | (simp only [NamelessL, Nameless, and_self, and_true, true_and]; done) | (simp [NamelessL, Nameless, u32s_nameless, namelessL_ints]; done)) ?_
  refine of_eq (B := letI z2 := List.length xs; letI z6 := List.length ys; letI z0 := (IntKind.wrap IntKind.i64 (((z2 : Nat) : Int) + ((z6 : Nat) : Int))); letI z1 := (z2 + z6); letI z3 := (List.replicate z1 (0 : Nat)); letI z4 := (z1 * (1 : Nat)); letI z5 := (List.replicate (Int.toNat z0) (D.v (Value.int IntKind.u32 (0 : Int)))); letI z13 := (D.ro z2 (u32s xs)); letI z7 := (True ∧ (z13 = z13)); letI z8 := (D.v (Value.int IntKind.i64 ((z2 : Nat) : Int))); letI z9 := ((nv xs) * (nv ys)); letI z10 := ([] : List (Option Blk)); letI z11 := (Cap.toEnd (1 : Nat)); letI z12 := (D.ro z6 (u32s ys)); (True ∧ (True ∧ (True ∧ (True ∧ (True ∧ (True ∧ ((((0 : Int) ≤ z0) ∧ ((z0 ≤ z0) ∧ ((((4 : Int) * z0) ≤ (281474976710656 : Int)) ∧ (z0 ≤ (9223372036854775807 : Int))))) ∧ (True ∧ (True ∧ (True ∧ (True ∧ (((((0 : Nat) ≤ z2) ∧ (((List.length z3) = z1) ∧ (Dig z3))) ∧ (((nv z3) = ((nv ([] : List Nat)) * (nv ys))) ∧ ((nv (List.drop ((0 : Nat) + z6) z3)) = (0 : Nat)))) ∧ (((Bool.true = Bool.true) ∧ (((((Option.some (Blk.mk (41 : Nat) (u32s z3) Bool.true)) = (Option.some (Blk.mk (41 : Nat) z5 Bool.true))) ∧ (NamelessL z5)) ∧ (z10 = z10)) ∧ (z7 ∧ ((True ∧ (z12 = z12)) ∧ ((True ∧ ((D.sl (0 : Nat) (0 : Nat) (Int.toNat z0) z11) = (D.sl (0 : Nat) (0 : Nat) z1 z11))) ∧ (z7 ∧ ((True ∧ (z8 = z8)) ∧ ((True ∧ ((D.v (Value.int IntKind.i64 (0 : Int))) = (D.v (Value.int IntKind.i64 (((0 : Nat) : Nat) : Int))))) ∧ True)))))))) ∧ (∀ (r : (List Nat)), ((((List.length r) = z1) ∧ ((Dig r) ∧ ((nv r) = z9))) → (True ∧ (((((NamelessL (u32s r)) ∧ (((0 : Nat) < (1 : Nat)) ∧ (((0 : Nat) + z4) ≤ (List.length (u32s r))))) ∧ True) ∧ ((((List.take z4 (List.drop (0 : Nat) (u32s r))) = (u32s (unu (List.take z4 (List.drop (0 : Nat) (u32s r)))))) ∧ (z1 = (List.length (unu (List.take z4 (List.drop (0 : Nat) (u32s r))))))) ∧ ((List.length (unu (List.take z4 (List.drop (0 : Nat) (u32s r))))) ≤ (1000000 : Nat)))) ∧ (True ∧ (True ∧ (True ∧ ((D.ro (List.length (trimL (unu (List.take z4 (List.drop (0 : Nat) (u32s r)))))) (u32s (trimL (unu (List.take z4 (List.drop (0 : Nat) (u32s r))))))) = (D.ro (List.length (dg z9)) (u32s (dg z9))))))))))))))))))))))))) (by kernel_rfl) ?_
  simp only [true_and, and_true, and_self, IsInt_lit, IsBool_lit, IsStr_lit, Bool.not_eq_true', Bool.not_eq_false', Bool.not_true, Bool.not_false, Int.reduceLE, Int.reduceLT, Int.reduceNeg, Nat.le_refl, Int.le_refl, Nat.reduceLT, Nat.reduceLeDiff, Nat.reduceEqDiff, D.v.injEq, D.tup.injEq, D.agg.injEq, D.ro.injEq, List.cons.injEq, Value.int.injEq, Value.bool.injEq, pcond_true, pcond_false, NamelessL, Nameless, Nat.reduceMul, Nat.reduceAdd, Nat.zero_add, Int.toNat_natCast, unu_u32s]
  obtain ⟨hx, hy, hdx, hdy⟩ := hpre
  have hw : IntKind.i64.wrap ((xs.length : Int) + (ys.length : Int)) = ((xs.length + ys.length : Nat) : Int) := by rw [wrap_i64_of (by omega) (by omega)]; omega
  have hr : List.replicate (xs.length + ys.length) (D.v (Value.int IntKind.u32 0)) = u32s (List.replicate (xs.length + ys.length) 0) := u32s_replicate _ 0
  have hn0 : ∀ n, nv (List.replicate n 0) = 0 := fun n => by
    induction n with
    | zero => rfl
    | succ n ih => rw [List.replicate_succ, nv, ih]
  simp only [hw, Int.toNat_natCast, hr]
  refine ⟨⟨by omega, by omega, by omega⟩, ⟨⟨Nat.zero_le _, by simp, fun x hx => by rw [(List.mem_replicate.1 hx).2]; decide⟩, by rw [hn0]; simp [nv], by rw [List.drop_replicate, hn0]⟩, ⟨⟨trivial, u32s_nameless _⟩, trivial, rfl⟩, ?_⟩
  rintro r ⟨hrl, hrd, hre⟩
  have ht : trimL r = dg (nv xs * nv ys) := by rw [← hre]; exact trimL_dig hrd
  have e : List.take ((xs.length + ys.length) * 1) (List.drop 0 (u32s r)) = u32s r := by
    rw [List.drop_zero, Nat.mul_one, ← hrl, ← u32s_length r, List.take_length]
  simp only [e, unu_u32s, ht, hrl, u32s_length]
  exact ⟨⟨⟨u32s_nameless _, by omega⟩, ⟨trivial, trivial⟩, by omega⟩, trivial, trivial⟩
def ent_imultiply : Ent := fun ds => match ds with
  | [.ro n_xs ys_xs, .ro n_ys ys_ys] => some (.ro (dg (nv (unu ys_xs) * nv (unu ys_ys))).length (u32s (dg (nv (unu ys_xs) * nv (unu ys_ys)))), (ys_ys = u32s (unu ys_ys) ∧ n_ys = (unu ys_ys).length) ∧ (ys_xs = u32s (unu ys_xs) ∧ n_xs = (unu ys_xs).length) ∧ (unu ys_xs).length ≤ 400000 ∧ (unu ys_ys).length ≤ 400000 ∧ Dig (unu ys_xs) ∧ Dig (unu ys_ys))
  | _ => none
theorem ent_imultiply_ok : EntOk Try.prog 68 ent_imultiply := by
  intro ds d c h hc; unfold ent_imultiply at h; split at h
  · rename_i n_xs ys_xs n_ys ys_ys; obtain ⟨rfl, rfl⟩ := pair_inj h
    obtain ⟨⟨h1, h2⟩, hc⟩ := hc; subst h2; generalize (unu ys_ys) = ys at *; subst h1
    obtain ⟨⟨h1, h2⟩, hc⟩ := hc; subst h2; generalize (unu ys_xs) = xs at *; subst h1
    exact imultiply_pure xs ys hc
  · cases h
end Go.Proofs.Ythnhfkpihbjddaa
end
section
namespace Go.Proofs.Ythnhfkpihbjddaa
open Go.VD
set_option linter.unusedVariables false
set_option linter.unusedSimpArgs false
set_option maxRecDepth 100000
theorem PureJ.ro0 {P : Program} {f : FuncId} {ys : List D} {d : D} (hn : NamelessL ys) (h : ∀ A c, PureJ P f [.v (.slice A 0 c)] d) : PureJ P f [.ro 0 ys] d := by
  refine ⟨(h none 0).callable, by simp [NamelessL, Nameless, hn], (h none 0).res, fun S w vals hs hG hv => ?_⟩
  simp only [RdT, Rd] at hv
  obtain ⟨u, r, rfl, ⟨_, A, c, rfl, _⟩, rfl⟩ := hv
  exact (h A c).call S w _ hs hG (by simp [RdT, Rd])
theorem iclone0_pure (A : Option Addr) (c : Nat) : PureJ Try.prog 87 [.v (.slice A 0 c)] (.ro 0 []) := by
  refine pureJ_of_vcpN (call := noCalls) (lp := fun _ => none) (N := 10) T_ok mixed noCalls_ok Try.func87 rfl (by decide) (by kernel_rfl) (by kernel_rfl) (LpAllP.none _) (by first | trivial | (simp only [NamelessL, Nameless, and_self, and_true, true_and]; done) | (simp [NamelessL, Nameless, u32s_nameless, namelessL_ints]; done)) (by first | trivial | (simp only [NamelessL, Nameless, and_self, and_true, true_and]; done) | (simp [NamelessL, Nameless, u32s_nameless, namelessL_ints]; done)) ?_
  refine of_eq (B := letI z0 := (D.ro (0 : Nat) ([] : List D)); letI z1 := ((0 : Nat) ≤ (9223372036854775807 : Nat)); letI z2 := ((0 : Nat) ≤ (0 : Nat)); letI z3 := ((0 : Nat) < (1 : Nat)); (True ∧ (True ∧ (True ∧ (pcond (Option.isSome.match_1 (fun (x : (Option Addr)) => Bool) A (fun (val : Addr) => Bool.false) (fun (_ : Unit) => Bool.true)) (True ∧ (True ∧ (True ∧ (z0 = z0)))) ((((0 : Nat) ≤ (16777216 : Nat)) ∧ z1) ∧ (True ∧ ((True ∧ (((22 : Nat) = (22 : Nat)) ∧ (((1 : Nat) = (1 : Nat)) ∧ (((41 : Nat) = (41 : Nat)) ∧ (z2 ∧ (z3 ∧ (z1 ∧ ((0 : Nat) ≤ (140737488355328 : Nat))))))))) ∧ (True ∧ (True ∧ (((NamelessL ([] : List D)) ∧ (z3 ∧ z2)) ∧ (z0 = z0)))))))))))) (by kernel_rfl) ?_
  simp only [true_and, and_true, and_self, IsInt_lit, IsBool_lit, IsStr_lit, Bool.not_eq_true', Bool.not_eq_false', Bool.not_true, Bool.not_false, Int.reduceLE, Int.reduceLT, Int.reduceNeg, Nat.le_refl, Int.le_refl, Nat.reduceLT, Nat.reduceLeDiff, Nat.reduceEqDiff, D.v.injEq, D.tup.injEq, D.agg.injEq, D.ro.injEq, List.cons.injEq, Value.int.injEq, Value.bool.injEq, pcond_true, pcond_false, NamelessL, Nameless, Nat.reduceMul, Nat.reduceAdd, Nat.zero_add, Int.toNat_natCast]
  exact pcond_intro (fun _ => trivial) (fun _ => trivial)
def ent_iclone0 : Ent := fun ds => match ds with
  | [.v (.slice A 0 c)] => some (.ro 0 [], True)
  | _ => none
theorem ent_iclone0_ok : EntOk Try.prog 87 ent_iclone0 := by
  intro ds d c h hc; unfold ent_iclone0 at h; split at h
  · obtain ⟨rfl, rfl⟩ := pair_inj h; exact iclone0_pure _ _
  · cases h
theorem iclone1_pure (xs : List Nat) (hpre : 0 < xs.length ∧ xs.length ≤ 1000000) : PureJ Try.prog 87 [.ro xs.length (u32s xs)] (.ro xs.length (u32s xs)) := by
  refine pureJ_of_vcx (call := noCalls) (lp := fun _ => none) (N := 10) T_ok mixed noCalls_ok Try.func87 rfl (by decide) (by kernel_rfl) (by kernel_rfl) (LpAll.none _) (by first | trivial | (simp only [NamelessL, Nameless, and_self, and_true, true_and]; done) | (simp [NamelessL, Nameless, u32s_nameless, namelessL_ints]; done)) (by first | trivial | (simp only [NamelessL, Nameless, and_self, and_true, true_and]; done) | (simp [NamelessL, Nameless, u32s_nameless, namelessL_ints]; done)) ?_
  refine of_eq (B := letI z2 := List.length xs; letI z0 := (([] : List D) ++ (List.take (z2 * (1 : Nat)) (u32s xs))); letI z1 := ((0 : Nat) + z2); letI z3 := (9223372036854775807 : Nat); letI z4 := ((0 : Nat) < (1 : Nat)); (True ∧ (True ∧ (((0 : Nat) < z2) ∧ ((((0 : Nat) ≤ (16777216 : Nat)) ∧ ((0 : Nat) ≤ z3)) ∧ (True ∧ ((((z2 * (1 : Nat)) ≤ (List.length (u32s xs))) ∧ (((22 : Nat) = (22 : Nat)) ∧ (((1 : Nat) = (1 : Nat)) ∧ (((41 : Nat) = (41 : Nat)) ∧ (((0 : Nat) ≤ (0 : Nat)) ∧ (z4 ∧ ((z1 ≤ z3) ∧ ((z1 * (4 : Nat)) ≤ (140737488355328 : Nat))))))))) ∧ (True ∧ (True ∧ (((NamelessL z0) ∧ (z4 ∧ (((0 : Nat) + (z1 * (1 : Nat))) ≤ (List.length z0)))) ∧ ((D.ro z1 (List.take (z1 * (1 : Nat)) (List.drop (0 : Nat) z0))) = (D.ro z2 (u32s xs))))))))))))) (by kernel_rfl) ?_
  simp only [true_and, and_true, and_self, IsInt_lit, IsBool_lit, IsStr_lit, Bool.not_eq_true', Bool.not_eq_false', Bool.not_true, Bool.not_false, Int.reduceLE, Int.reduceLT, Int.reduceNeg, Nat.le_refl, Int.le_refl, Nat.reduceLT, Nat.reduceLeDiff, Nat.reduceEqDiff, D.v.injEq, D.tup.injEq, D.agg.injEq, D.ro.injEq, List.cons.injEq, Value.int.injEq, Value.bool.injEq, pcond_true, pcond_false, NamelessL, Nameless, Nat.reduceMul, Nat.reduceAdd, Nat.zero_add, Int.toNat_natCast, Nat.mul_one, List.nil_append, u32s_length, u32s_take, u32s_nameless, List.take_length, List.drop_zero]
  exact ⟨hpre.1, by omega, by omega⟩
def ent_iclone1 : Ent := fun ds => match ds with
  | [.ro n_xs ys_xs] => some (.ro (unu ys_xs).length (u32s (unu ys_xs)), (ys_xs = u32s (unu ys_xs) ∧ n_xs = (unu ys_xs).length) ∧ 0 < (unu ys_xs).length ∧ (unu ys_xs).length ≤ 1000000)
  | _ => none
theorem ent_iclone1_ok : EntOk Try.prog 87 ent_iclone1 := by
  intro ds d c h hc; unfold ent_iclone1 at h; split at h
  · rename_i n_xs ys_xs; obtain ⟨rfl, rfl⟩ := pair_inj h
    obtain ⟨⟨h1, h2⟩, hc⟩ := hc; subst h2; generalize (unu ys_xs) = xs at *; subst h1
    exact iclone1_pure xs hc
  · cases h
theorem iclone_pure (xs : List Nat) (hpre : xs.length ≤ 1000000) : PureJ Try.prog 87 [.ro xs.length (u32s xs)] (.ro xs.length (u32s xs)) := by
  by_cases h : 0 < xs.length
  · exact iclone1_pure xs ⟨h, hpre⟩
  · have : xs = [] := List.eq_nil_of_length_eq_zero (by omega)
    subst this
    exact PureJ.ro0 (u32s_nameless []) fun A c => iclone0_pure A c
def ent_iclone : Ent := fun ds => match ds with
  | [.ro n ys] => some (.ro (unu ys).length (u32s (unu ys)), (ys = u32s (unu ys) ∧ n = (unu ys).length) ∧ (unu ys).length ≤ 1000000)
  | _ => none
theorem ent_iclone_ok : EntOk Try.prog 87 ent_iclone := by
  intro ds d c h hc; unfold ent_iclone at h; split at h
  · rename_i n ys; obtain ⟨rfl, rfl⟩ := pair_inj h
    obtain ⟨⟨h1, h2⟩, hc⟩ := hc; subst h2; generalize unu ys = xs at *; subst h1
    exact iclone_pure xs hc
  · cases h
def okS (v : Int) : Bool × List Nat × Int := bif decide ((ofL v).length ≤ 400) then (decide (v < 0), ofL v, 0) else (false, [], 2)
def arS (ok : Bool) (v : Int) : Bool × List Nat × Int := bif ok then okS v else (false, [], 1)
def d_ar (p : Bool × List Nat × Int) : D := .tup [d_int p.1 p.2.1, .v (.int .i64 p.2.2)]
theorem sig_ok {neg : Bool} {xs : List Nat} {v : Int} (hn : madeN neg xs = decide (v < 0)) (ht : trimL xs = ofL v) : sigN neg xs = (okS v).1 ∧ sigL xs = (okS v).2.1 ∧ sigE xs = (okS v).2.2 := by
  unfold sigN sigL sigE sigF okS
  rw [hn, ht]
  by_cases h : (ofL v).length ≤ 400
  · simp [h]
  · simp [h]
theorem valid_good {n : Bool} {xs : List Nat} (hd : Dig xs) (h : validL n xs = true) : Good n xs ∧ xs.length ≤ 400 := by
  unfold validL at h
  by_cases h0 : xs.length = 0
  · have : xs = [] := List.eq_nil_of_length_eq_zero h0
    subst this
    simp at h
    subst h
    exact ⟨good_zero, by simp⟩
  · rw [if_neg h0] at h
    simp only [Bool.and_eq_true, decide_eq_true_eq] at h
    have hc := canon_dg (xs := xs) ⟨hd, .inr h.2⟩
    refine ⟨⟨hc.symm, fun _ hz => ?_⟩, h.1⟩
    rw [hz, dg_zero] at hc
    rw [← hc] at h0
    exact h0 rfl
theorem iv_not {n : Bool} {xs : List Nat} : iv (!n) xs = -iv n xs := by unfold iv; cases n <;> simp
def LenOk (xs : List Nat) : Prop := xs.length ≤ 1000 ∧ Dig xs
def resG (neg : Bool) (xs : List Nat) : Bool × List Nat × Int := bif decide (xs.length ≤ 400) then (neg, xs, 0) else (false, [], 2)
theorem resG_ok {neg : Bool} {xs : List Nat} {v : Int} (hn : madeN neg xs = decide (v < 0)) (ht : trimL xs = ofL v) : resG (madeN neg xs) (trimL xs) = okS v := by
  unfold resG okS; rw [hn, ht]
theorem gresult_pure (neg : Bool) (xs : List Nat) (hpre : xs.length ≤ 1000000) : PureJ Try.prog 59 [.agg [.v (.bool neg), .ro xs.length (u32s xs)]] (d_ar (resG neg xs)) := by
  refine pureJ_of_vcpN (call := noCalls) (lp := fun _ => none) (N := 10) T_ok mixed noCalls_ok Try.func59 rfl (by decide) (by kernel_rfl) (by kernel_rfl) (LpAllP.none _) (by (simp [NamelessL, Nameless, d_ar, d_int, u32s_nameless]; done)) (by (simp [NamelessL, Nameless, d_ar, d_int, u32s_nameless]; done)) ?_
  refine of_eq (B := letI z3 := (Prod.snd (resG neg xs)); letI z0 := (D.tup [(D.agg [(D.v (Value.bool (Prod.fst (resG neg xs)))), (D.ro (List.length (Prod.fst z3)) (u32s (Prod.fst z3)))]), (D.v (Value.int IntKind.i64 (Prod.snd z3)))]); letI z1 := ((2 : Nat) ≤ (2 : Nat)); letI z2 := ((True ∧ (True ∧ True)) ∧ (True ∧ True)); letI z4 := (((2 : Nat) = (2 : Nat)) ∧ z1); (True ∧ (True ∧ (True ∧ (True ∧ (((1 : Nat) < (2 : Nat)) ∧ (True ∧ (True ∧ (pcond (Decidable.decide ((400 : Int) < (((List.length xs) : Nat) : Int))) (True ∧ (z4 ∧ (True ∧ ((z1 ∧ True) ∧ (z2 ∧ ((D.tup [(D.agg [(D.v (Value.bool Bool.false)), (D.ro (0 : Nat) ([] : List D))]), (D.v (Value.int IntKind.i64 (2 : Int)))]) = z0)))))) (z1 ∧ (z4 ∧ (True ∧ ((z1 ∧ True) ∧ (z2 ∧ ((D.tup [(D.agg [(D.v (Value.bool neg)), (D.ro (List.length xs) (u32s xs))]), (D.v (Value.int IntKind.i64 (0 : Int)))]) = z0))))))))))))))) (by kernel_rfl) ?_
  simp only [true_and, and_true, and_self, IsInt_lit, IsBool_lit, IsStr_lit, Bool.not_eq_true', Bool.not_eq_false', Bool.not_true, Bool.not_false, Int.reduceLE, Int.reduceLT, Int.reduceNeg, Nat.le_refl, Int.le_refl, Nat.reduceLT, Nat.reduceLeDiff, Nat.reduceEqDiff, D.v.injEq, D.tup.injEq, D.agg.injEq, D.ro.injEq, List.cons.injEq, Value.int.injEq, Value.bool.injEq, pcond_true, pcond_false, NamelessL, Nameless, Nat.reduceMul, Nat.reduceAdd, Nat.zero_add, Int.toNat_natCast]
  refine pcond_intro (fun h => ?_) (fun h => ?_)
  · simp only [decide_eq_true_eq] at h
    have : ¬ xs.length ≤ 400 := by omega
    simp [resG, this, u32s]
  · simp only [decide_eq_false_iff_not] at h
    have : xs.length ≤ 400 := by omega
    simp [resG, this]
def ent_gresult : Ent := fun ds => match ds with
  | [.agg [.v (.bool neg), .ro n_xs ys_xs]] => some (d_ar (resG neg (unu ys_xs)), (ys_xs = u32s (unu ys_xs) ∧ n_xs = (unu ys_xs).length) ∧ (unu ys_xs).length ≤ 1000000)
  | _ => none
theorem ent_gresult_ok : EntOk Try.prog 59 ent_gresult := by
  intro ds d c h hc; unfold ent_gresult at h; split at h
  · rename_i neg n_xs ys_xs; obtain ⟨rfl, rfl⟩ := pair_inj h
    obtain ⟨⟨h1, h2⟩, hc⟩ := hc; subst h2; generalize (unu ys_xs) = xs at *; subst h1
    exact gresult_pure _ xs hc
  · cases h
end Go.Proofs.Ythnhfkpihbjddaa
end
