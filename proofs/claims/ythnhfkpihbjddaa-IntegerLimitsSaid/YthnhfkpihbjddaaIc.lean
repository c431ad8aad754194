/- The program's integers: sums as values, small integers, comparison; the law on small integers. -/
import Derived.Test.YthnhfkpihbjddaaIb
import Derived.Test.YthnhfkpihbjddaaVy
namespace Go.Proofs.Ythnhfkpihbjddaa
open Go.VD
set_option linter.unusedVariables false
set_option linter.unusedSimpArgs false
set_option maxRecDepth 100000

def sigF (xs : List Nat) : Bool := decide ((trimL xs).length ≤ 400)
def sigL (xs : List Nat) : List Nat := bif sigF xs then trimL xs else []
def sigN (neg : Bool) (xs : List Nat) : Bool := sigF xs && madeN neg xs
def sigE (xs : List Nat) : Int := bif sigF xs then 0 else 2
theorem sig_small (neg : Bool) {v : Nat} (h : (dg v).length ≤ 400) : sigN neg (dg v) = (neg && decide (v ≠ 0)) ∧ sigL (dg v) = dg v ∧ sigE (dg v) = 0 := by
  have e := madeN_dg neg v
  have hf : sigF (dg v) = true := by unfold sigF; rw [e.2]; simpa using h
  unfold sigN sigL sigE
  rw [hf, e.1, e.2]
  exact ⟨rfl, rfl, rfl⟩
theorem isum_same {xn yn : Bool} (h : xn = yn) {xs ys : List Nat} : (yn && decide (nv xs + nv ys ≠ 0)) = decide (iv xn xs + iv yn ys < 0) ∧ dg (nv xs + nv ys) = ofL (iv xn xs + iv yn ys) := by
  subst h
  refine ⟨?_, ?_⟩
  · unfold iv
    cases xn <;> rw [Bool.eq_iff_iff] <;> simp <;> omega
  · unfold ofL iv
    congr 1
    cases xn <;> simp <;> omega
theorem isigned_pure (neg : Bool) (xs : List Nat) (hpre : xs.length ≤ 1000000) : PureJ Try.prog 54 [.v (.bool neg), .ro xs.length (u32s xs)] (.tup [d_int (sigN neg xs) (sigL xs), .v (.int .i64 (sigE xs))]) := by
  refine pureJ_of_vcpN (call := (addPure 89 ent_itrim noCalls)) (lp := fun _ => none) (N := 10) T_ok mixed (addPure_ok ent_itrim_ok noCalls_ok) Try.func54 rfl (by decide) (by kernel_rfl) (by kernel_rfl) (LpAllP.none _) (by first | trivial | (simp only [NamelessL, Nameless, and_self, and_true, true_and]; done) | (simp [NamelessL, Nameless, u32s_nameless, namelessL_ints, d_int]; done)) (by first | trivial | (simp only [NamelessL, Nameless, and_self, and_true, true_and]; done) | (simp [NamelessL, Nameless, u32s_nameless, namelessL_ints, d_int]; done)) ?_
  refine of_eq (B := (True ∧ (True ∧ (True ∧ (((((u32s xs) = (u32s (unu (u32s xs)))) ∧ ((List.length xs) = (List.length (unu (u32s xs))))) ∧ ((List.length (unu (u32s xs))) ≤ (1000000 : Nat))) ∧ (True ∧ (True ∧ (True ∧ (True ∧ (pcond (Decidable.decide ((400 : Int) < (((List.length (trimL (unu (u32s xs)))) : Nat) : Int))) (True ∧ ((((2 : Nat) = (2 : Nat)) ∧ ((2 : Nat) ≤ (2 : Nat))) ∧ (True ∧ ((((2 : Nat) ≤ (2 : Nat)) ∧ True) ∧ (((True ∧ (True ∧ True)) ∧ (True ∧ True)) ∧ ((D.tup [(D.agg [(D.v (Value.bool Bool.false)), (D.ro (0 : Nat) ([] : List D))]), (D.v (Value.int IntKind.i64 (2 : Int)))]) = (D.tup [(D.agg [(D.v (Value.bool (sigN neg xs))), (D.ro (List.length (sigL xs)) (u32s (sigL xs)))]), (D.v (Value.int IntKind.i64 (sigE xs)))]))))))) (True ∧ (True ∧ (pcond neg (True ∧ (True ∧ (True ∧ (True ∧ (True ∧ (True ∧ ((((2 : Nat) = (2 : Nat)) ∧ ((2 : Nat) ≤ (2 : Nat))) ∧ (True ∧ ((((2 : Nat) ≤ (2 : Nat)) ∧ True) ∧ (((True ∧ (True ∧ True)) ∧ (True ∧ True)) ∧ ((D.tup [(D.agg [(D.v (Value.bool (Decidable.decide ((0 : Int) < (((List.length (trimL (unu (u32s xs)))) : Nat) : Int))))), (D.ro (List.length (trimL (unu (u32s xs)))) (u32s (trimL (unu (u32s xs)))))]), (D.v (Value.int IntKind.i64 (0 : Int)))]) = (D.tup [(D.agg [(D.v (Value.bool (sigN neg xs))), (D.ro (List.length (sigL xs)) (u32s (sigL xs)))]), (D.v (Value.int IntKind.i64 (sigE xs)))])))))))))))) (True ∧ (True ∧ (True ∧ ((((2 : Nat) = (2 : Nat)) ∧ ((2 : Nat) ≤ (2 : Nat))) ∧ (True ∧ ((((2 : Nat) ≤ (2 : Nat)) ∧ True) ∧ (((True ∧ (True ∧ True)) ∧ (True ∧ True)) ∧ ((D.tup [(D.agg [(D.v (Value.bool Bool.false)), (D.ro (List.length (trimL (unu (u32s xs)))) (u32s (trimL (unu (u32s xs)))))]), (D.v (Value.int IntKind.i64 (0 : Int)))]) = (D.tup [(D.agg [(D.v (Value.bool (sigN neg xs))), (D.ro (List.length (sigL xs)) (u32s (sigL xs)))]), (D.v (Value.int IntKind.i64 (sigE xs)))])))))))))))))))))))))) (by kernel_rfl) ?_
  simp only [true_and, and_true, and_self, IsInt_lit, IsBool_lit, IsStr_lit, Bool.not_eq_true', Bool.not_eq_false', Bool.not_true, Bool.not_false, Int.reduceLE, Int.reduceLT, Int.reduceNeg, Nat.le_refl, Int.le_refl, Nat.reduceLT, Nat.reduceLeDiff, Nat.reduceEqDiff, D.v.injEq, D.tup.injEq, D.agg.injEq, D.ro.injEq, List.cons.injEq, Value.int.injEq, Value.bool.injEq, pcond_true, pcond_false, NamelessL, Nameless, Nat.reduceMul, Nat.reduceAdd, Nat.zero_add, Int.toNat_natCast, unu_u32s]
  refine ⟨hpre, pcond_intro (fun h => ?_) (fun h => ?_)⟩
  · have hf : sigF xs = false := by unfold sigF; simp at h ⊢; omega
    simp [sigN, sigL, sigE, hf, u32s]
  · have hf : sigF xs = true := by unfold sigF; simp at h ⊢; omega
    have e : decide (0 < ((trimL xs).length : Int)) = decide (0 < (trimL xs).length) := by rw [decide_eq_decide]; omega
    refine pcond_intro (fun h2 => ?_) (fun h2 => ?_) <;> simp [sigN, sigL, sigE, hf, madeN, h2]
def ent_isigned : Ent := fun ds => match ds with
  | [.v (.bool neg), .ro n_xs ys_xs] => some (.tup [d_int (sigN neg (unu ys_xs)) (sigL (unu ys_xs)), .v (.int .i64 (sigE (unu ys_xs)))], (ys_xs = u32s (unu ys_xs) ∧ n_xs = (unu ys_xs).length) ∧ (unu ys_xs).length ≤ 1000000)
  | _ => none
theorem ent_isigned_ok : EntOk Try.prog 54 ent_isigned := by
  intro ds d c h hc; unfold ent_isigned at h; split at h
  · rename_i neg n_xs ys_xs; obtain ⟨rfl, rfl⟩ := pair_inj h
    obtain ⟨⟨h1, h2⟩, hc⟩ := hc; subst h2; generalize (unu ys_xs) = xs at *; subst h1
    exact isigned_pure _ xs hc
  · cases h
theorem isum_pure (xn : Bool) (xs : List Nat) (yn : Bool) (ys : List Nat) (hpre : (xs = dg (nv xs) ∧ xs.length ≤ 200) ∧ ys = dg (nv ys) ∧ ys.length ≤ 200) : PureJ Try.prog 67 [.agg [.v (.bool xn), .ro xs.length (u32s xs)], .v (.bool yn), .ro ys.length (u32s ys)] (.tup [d_int (decide (iv xn xs + iv yn ys < 0)) (ofL (iv xn xs + iv yn ys)), .v (.int .i64 0)]) := by
  refine pureJ_of_vcx (call := (addPure 52 ent_iadd (addPure 65 ent_icompare (addPure 53 ent_isub (addPure 54 ent_isigned noCalls))))) (lp := fun _ => none) (N := 10) T_ok mixed (addPure_ok ent_iadd_ok (addPure_ok ent_icompare_ok (addPure_ok ent_isub_ok (addPure_ok ent_isigned_ok noCalls_ok)))) Try.func67 rfl (by decide) (by kernel_rfl) (by kernel_rfl) (LpAll.none _) (by first | trivial | (simp only [NamelessL, Nameless, and_self, and_true, true_and]; done) | (simp [NamelessL, Nameless, u32s_nameless, namelessL_ints, d_int]; done)) (by first | trivial | (simp only [NamelessL, Nameless, and_self, and_true, true_and]; done) | (simp [NamelessL, Nameless, u32s_nameless, namelessL_ints, d_int]; done)) ?_
  refine of_eq (B := (True ∧ (True ∧ (True ∧ (True ∧ ((((0 : Nat) < (2 : Nat)) ∧ (IsBool (D.v (Value.bool xn)))) ∧ (True ∧ (True ∧ (pcond (xn == yn) (True ∧ (True ∧ (((1 : Nat) < (2 : Nat)) ∧ (True ∧ (((((u32s ys) = (u32s (unu (u32s ys)))) ∧ ((List.length ys) = (List.length (unu (u32s ys))))) ∧ ((((u32s xs) = (u32s (unu (u32s xs)))) ∧ ((List.length xs) = (List.length (unu (u32s xs))))) ∧ (((List.length (unu (u32s xs))) ≤ (400000 : Nat)) ∧ (((List.length (unu (u32s ys))) ≤ (400000 : Nat)) ∧ ((Dig (unu (u32s xs))) ∧ (Dig (unu (u32s ys)))))))) ∧ (((((u32s (dg ((nv (unu (u32s xs))) + (nv (unu (u32s ys)))))) = (u32s (unu (u32s (dg ((nv (unu (u32s xs))) + (nv (unu (u32s ys))))))))) ∧ ((List.length (dg ((nv (unu (u32s xs))) + (nv (unu (u32s ys)))))) = (List.length (unu (u32s (dg ((nv (unu (u32s xs))) + (nv (unu (u32s ys)))))))))) ∧ ((List.length (unu (u32s (dg ((nv (unu (u32s xs))) + (nv (unu (u32s ys)))))))) ≤ (1000000 : Nat))) ∧ (True ∧ (True ∧ ((((2 : Nat) = (2 : Nat)) ∧ ((2 : Nat) ≤ (2 : Nat))) ∧ (True ∧ ((((2 : Nat) ≤ (2 : Nat)) ∧ True) ∧ (((True ∧ (True ∧ True)) ∧ (True ∧ True)) ∧ ((D.tup [(D.agg [(D.v (Value.bool (sigN yn (unu (u32s (dg ((nv (unu (u32s xs))) + (nv (unu (u32s ys)))))))))), (D.ro (List.length (sigL (unu (u32s (dg ((nv (unu (u32s xs))) + (nv (unu (u32s ys))))))))) (u32s (sigL (unu (u32s (dg ((nv (unu (u32s xs))) + (nv (unu (u32s ys))))))))))]), (D.v (Value.int IntKind.i64 (sigE (unu (u32s (dg ((nv (unu (u32s xs))) + (nv (unu (u32s ys))))))))))]) = (D.tup [(D.agg [(D.v (Value.bool (Decidable.decide (((iv xn xs) + (iv yn ys)) < (0 : Int))))), (D.ro (List.length (ofL ((iv xn xs) + (iv yn ys)))) (u32s (ofL ((iv xn xs) + (iv yn ys)))))]), (D.v (Value.int IntKind.i64 (0 : Int)))])))))))))))))) (True ∧ (((1 : Nat) < (2 : Nat)) ∧ (True ∧ (((((u32s ys) = (u32s (unu (u32s ys)))) ∧ ((List.length ys) = (List.length (unu (u32s ys))))) ∧ ((((u32s xs) = (u32s (unu (u32s xs)))) ∧ ((List.length xs) = (List.length (unu (u32s xs))))) ∧ ((List.length (unu (u32s xs))) ≤ (1000000000000 : Nat)))) ∧ (True ∧ (pcond (Decidable.decide ((0 : Int) ≤ (cmpL (unu (u32s xs)) (unu (u32s ys))))) (True ∧ ((((0 : Nat) < (2 : Nat)) ∧ (IsBool (D.v (Value.bool xn)))) ∧ (True ∧ (((1 : Nat) < (2 : Nat)) ∧ (True ∧ (((((u32s ys) = (u32s (unu (u32s ys)))) ∧ ((List.length ys) = (List.length (unu (u32s ys))))) ∧ ((((u32s xs) = (u32s (unu (u32s xs)))) ∧ ((List.length xs) = (List.length (unu (u32s xs))))) ∧ ((((List.length (unu (u32s xs))) ≤ (400000 : Nat)) ∧ (((List.length (unu (u32s ys))) ≤ (List.length (unu (u32s xs)))) ∧ ((Dig (unu (u32s xs))) ∧ (Dig (unu (u32s ys)))))) ∧ ((nv (unu (u32s ys))) ≤ (nv (unu (u32s xs))))))) ∧ (((((u32s (dg ((nv (unu (u32s xs))) - (nv (unu (u32s ys)))))) = (u32s (unu (u32s (dg ((nv (unu (u32s xs))) - (nv (unu (u32s ys))))))))) ∧ ((List.length (dg ((nv (unu (u32s xs))) - (nv (unu (u32s ys)))))) = (List.length (unu (u32s (dg ((nv (unu (u32s xs))) - (nv (unu (u32s ys)))))))))) ∧ ((List.length (unu (u32s (dg ((nv (unu (u32s xs))) - (nv (unu (u32s ys)))))))) ≤ (1000000 : Nat))) ∧ (True ∧ (True ∧ ((((2 : Nat) = (2 : Nat)) ∧ ((2 : Nat) ≤ (2 : Nat))) ∧ (True ∧ ((Bool.true = Bool.true) ∧ ((((2 : Nat) ≤ (2 : Nat)) ∧ True) ∧ (((True ∧ (True ∧ True)) ∧ (True ∧ True)) ∧ ((D.tup [(D.agg [(D.v (Value.bool (sigN xn (unu (u32s (dg ((nv (unu (u32s xs))) - (nv (unu (u32s ys)))))))))), (D.ro (List.length (sigL (unu (u32s (dg ((nv (unu (u32s xs))) - (nv (unu (u32s ys))))))))) (u32s (sigL (unu (u32s (dg ((nv (unu (u32s xs))) - (nv (unu (u32s ys))))))))))]), (D.v (Value.int IntKind.i64 (sigE (unu (u32s (dg ((nv (unu (u32s xs))) - (nv (unu (u32s ys))))))))))]) = (D.tup [(D.agg [(D.v (Value.bool (Decidable.decide (((iv xn xs) + (iv yn ys)) < (0 : Int))))), (D.ro (List.length (ofL ((iv xn xs) + (iv yn ys)))) (u32s (ofL ((iv xn xs) + (iv yn ys)))))]), (D.v (Value.int IntKind.i64 (0 : Int)))])))))))))))))))) (True ∧ (True ∧ (True ∧ (((1 : Nat) < (2 : Nat)) ∧ (((((u32s xs) = (u32s (unu (u32s xs)))) ∧ ((List.length xs) = (List.length (unu (u32s xs))))) ∧ ((((u32s ys) = (u32s (unu (u32s ys)))) ∧ ((List.length ys) = (List.length (unu (u32s ys))))) ∧ ((((List.length (unu (u32s ys))) ≤ (400000 : Nat)) ∧ (((List.length (unu (u32s xs))) ≤ (List.length (unu (u32s ys)))) ∧ ((Dig (unu (u32s ys))) ∧ (Dig (unu (u32s xs)))))) ∧ ((nv (unu (u32s xs))) ≤ (nv (unu (u32s ys))))))) ∧ (((((u32s (dg ((nv (unu (u32s ys))) - (nv (unu (u32s xs)))))) = (u32s (unu (u32s (dg ((nv (unu (u32s ys))) - (nv (unu (u32s xs))))))))) ∧ ((List.length (dg ((nv (unu (u32s ys))) - (nv (unu (u32s xs)))))) = (List.length (unu (u32s (dg ((nv (unu (u32s ys))) - (nv (unu (u32s xs)))))))))) ∧ ((List.length (unu (u32s (dg ((nv (unu (u32s ys))) - (nv (unu (u32s xs)))))))) ≤ (1000000 : Nat))) ∧ (True ∧ (True ∧ ((((2 : Nat) = (2 : Nat)) ∧ ((2 : Nat) ≤ (2 : Nat))) ∧ (True ∧ ((((2 : Nat) ≤ (2 : Nat)) ∧ True) ∧ (((True ∧ (True ∧ True)) ∧ (True ∧ True)) ∧ ((D.tup [(D.agg [(D.v (Value.bool (sigN yn (unu (u32s (dg ((nv (unu (u32s ys))) - (nv (unu (u32s xs)))))))))), (D.ro (List.length (sigL (unu (u32s (dg ((nv (unu (u32s ys))) - (nv (unu (u32s xs))))))))) (u32s (sigL (unu (u32s (dg ((nv (unu (u32s ys))) - (nv (unu (u32s xs))))))))))]), (D.v (Value.int IntKind.i64 (sigE (unu (u32s (dg ((nv (unu (u32s ys))) - (nv (unu (u32s xs))))))))))]) = (D.tup [(D.agg [(D.v (Value.bool (Decidable.decide (((iv xn xs) + (iv yn ys)) < (0 : Int))))), (D.ro (List.length (ofL ((iv xn xs) + (iv yn ys)))) (u32s (ofL ((iv xn xs) + (iv yn ys)))))]), (D.v (Value.int IntKind.i64 (0 : Int)))]))))))))))))))))))))))))))))) (by kernel_rfl) ?_
  simp only [true_and, and_true, and_self, IsInt_lit, IsBool_lit, IsStr_lit, Bool.not_eq_true', Bool.not_eq_false', Bool.not_true, Bool.not_false, Int.reduceLE, Int.reduceLT, Int.reduceNeg, Nat.le_refl, Int.le_refl, Nat.reduceLT, Nat.reduceLeDiff, Nat.reduceEqDiff, D.v.injEq, D.tup.injEq, D.agg.injEq, D.ro.injEq, List.cons.injEq, Value.int.injEq, Value.bool.injEq, pcond_true, pcond_false, NamelessL, Nameless, Nat.reduceMul, Nat.reduceAdd, Nat.zero_add, Int.toNat_natCast, unu_u32s]
  obtain ⟨⟨gx, lx⟩, gy, ly⟩ := hpre
  have dx : Dig xs := by rw [gx]; exact dg_dig _
  have dy : Dig ys := by rw [gy]; exact dg_dig _
  have hm : plusM xs ys ≤ 200 := by unfold plusM; omega
  have hc : cmpL xs ys = cmpN (nv xs) (nv ys) := by rw [gx, gy, cmpL_dg, ← gx, ← gy]
  refine pcond_intro (fun h => ?_) (fun h => ⟨by omega, pcond_intro (fun h2 => ?_) (fun h2 => ?_)⟩)
  · have hlen := dg_length_le (plus_lt dx dy)
    obtain ⟨s1, s2, s3⟩ := sig_small yn (show (dg (nv xs + nv ys)).length ≤ 400 by omega)
    obtain ⟨e1, e2⟩ := isum_same (show xn = yn by simpa using h) (xs := xs) (ys := ys)
    rw [s1, s2, s3, e1, e2]
    rw [e2] at hlen
    exact ⟨⟨by omega, by omega, dx, dy⟩, by omega, ⟨rfl, rfl, rfl⟩, rfl⟩
  · simp only [decide_eq_true_eq, hc] at h2
    have hle : nv ys ≤ nv xs := by unfold cmpN at h2; split at h2 <;> omega
    have hlm := dg_len_mono hle
    rw [← gx, ← gy] at hlm
    have hl2 := dg_len_mono (show nv xs - nv ys ≤ nv xs by omega)
    rw [← gx] at hl2
    obtain ⟨s1, s2, s3⟩ := sig_small xn (show (dg (nv xs - nv ys)).length ≤ 400 by omega)
    obtain ⟨e1, e2⟩ := add_diff (xn := xn) (yn := yn) (by simpa using h) hle
    rw [(madeN_dg xn (nv xs - nv ys)).1] at e1
    rw [(madeN_dg xn (nv xs - nv ys)).2] at e2
    rw [s1, s2, s3, e1, e2]
    rw [e2] at hl2
    exact ⟨⟨⟨by omega, hlm, dx, dy⟩, hle⟩, by omega, ⟨rfl, rfl, rfl⟩, rfl⟩
  · simp only [decide_eq_false_iff_not, hc] at h2
    have hle : nv xs ≤ nv ys := by unfold cmpN at h2; split at h2 <;> (try split at h2) <;> omega
    have hlm := dg_len_mono hle
    rw [← gx, ← gy] at hlm
    have hl2 := dg_len_mono (show nv ys - nv xs ≤ nv ys by omega)
    rw [← gy] at hl2
    obtain ⟨s1, s2, s3⟩ := sig_small yn (show (dg (nv ys - nv xs)).length ≤ 400 by omega)
    obtain ⟨e1, e2⟩ := add_diff (xn := yn) (yn := xn) (by simp at h; exact fun k => h k.symm) hle
    rw [(madeN_dg yn (nv ys - nv xs)).1, Int.add_comm] at e1
    rw [(madeN_dg yn (nv ys - nv xs)).2, Int.add_comm] at e2
    rw [s1, s2, s3, e1, e2]
    rw [e2] at hl2
    exact ⟨⟨⟨by omega, hlm, dy, dx⟩, hle⟩, by omega, ⟨rfl, rfl, rfl⟩, rfl⟩
def ent_isum : Ent := fun ds => match ds with
  | [.agg [.v (.bool xn), .ro n_xs ys_xs], .v (.bool yn), .ro n_ys ys_ys] => some (.tup [d_int (decide (iv xn (unu ys_xs) + iv yn (unu ys_ys) < 0)) (ofL (iv xn (unu ys_xs) + iv yn (unu ys_ys))), .v (.int .i64 0)], (ys_ys = u32s (unu ys_ys) ∧ n_ys = (unu ys_ys).length) ∧ (ys_xs = u32s (unu ys_xs) ∧ n_xs = (unu ys_xs).length) ∧ ((unu ys_xs) = dg (nv (unu ys_xs)) ∧ (unu ys_xs).length ≤ 200) ∧ (unu ys_ys) = dg (nv (unu ys_ys)) ∧ (unu ys_ys).length ≤ 200)
  | _ => none
theorem ent_isum_ok : EntOk Try.prog 67 ent_isum := by
  intro ds d c h hc; unfold ent_isum at h; split at h
  · rename_i xn n_xs ys_xs yn n_ys ys_ys; obtain ⟨rfl, rfl⟩ := pair_inj h
    obtain ⟨⟨h1, h2⟩, hc⟩ := hc; subst h2; generalize (unu ys_ys) = ys at *; subst h1
    obtain ⟨⟨h1, h2⟩, hc⟩ := hc; subst h2; generalize (unu ys_xs) = xs at *; subst h1
    exact isum_pure _ xs _ ys hc
  · cases h
theorem iAdd_pure (xn : Bool) (xs : List Nat) (yn : Bool) (ys : List Nat) (hpre : (Good xn xs ∧ xs.length ≤ 200) ∧ Good yn ys ∧ ys.length ≤ 200) : PureJ Try.prog 29 [.agg [.v (.bool xn), .ro xs.length (u32s xs)], .agg [.v (.bool yn), .ro ys.length (u32s ys)]] (.tup [d_int (decide (iv xn xs + iv yn ys < 0)) (ofL (iv xn xs + iv yn ys)), .v (.int .i64 0)]) := by
  refine pureJ_of_vcx (call := (addPure 33 ent_iValid (addPure 67 ent_isum noCalls))) (lp := fun _ => none) (N := 10) T_ok mixed (addPure_ok ent_iValid_ok (addPure_ok ent_isum_ok noCalls_ok)) Try.func29 rfl (by decide) (by kernel_rfl) (by kernel_rfl) (LpAll.none _) (by first | trivial | (simp only [NamelessL, Nameless, and_self, and_true, true_and]; done) | (simp [NamelessL, Nameless, u32s_nameless, namelessL_ints, d_int]; done)) (by first | trivial | (simp only [NamelessL, Nameless, and_self, and_true, true_and]; done) | (simp [NamelessL, Nameless, u32s_nameless, namelessL_ints, d_int]; done)) ?_
  refine of_eq (B := (True ∧ (True ∧ (True ∧ (True ∧ (((2 : Nat) ≤ (2 : Nat)) ∧ (((((u32s xs) = (u32s (unu (u32s xs)))) ∧ ((List.length xs) = (List.length (unu (u32s xs))))) ∧ ((List.length (unu (u32s xs))) ≤ (1000000000000 : Nat))) ∧ (True ∧ (True ∧ (pcond (!(validL xn (unu (u32s xs)))) (True ∧ (True ∧ ((((2 : Nat) = (2 : Nat)) ∧ ((2 : Nat) ≤ (2 : Nat))) ∧ (True ∧ ((((2 : Nat) ≤ (2 : Nat)) ∧ True) ∧ (((True ∧ (True ∧ True)) ∧ (True ∧ True)) ∧ ((D.tup [(D.agg [(D.v (Value.bool Bool.false)), (D.v (Value.slice (Option.none) (0 : Nat) (0 : Nat)))]), (D.v (Value.int IntKind.i64 (1 : Int)))]) = (D.tup [(D.agg [(D.v (Value.bool (Decidable.decide (((iv xn xs) + (iv yn ys)) < (0 : Int))))), (D.ro (List.length (ofL ((iv xn xs) + (iv yn ys)))) (u32s (ofL ((iv xn xs) + (iv yn ys)))))]), (D.v (Value.int IntKind.i64 (0 : Int)))])))))))) (((2 : Nat) ≤ (2 : Nat)) ∧ (((((u32s ys) = (u32s (unu (u32s ys)))) ∧ ((List.length ys) = (List.length (unu (u32s ys))))) ∧ ((List.length (unu (u32s ys))) ≤ (1000000000000 : Nat))) ∧ (True ∧ (True ∧ (pcond (!(validL yn (unu (u32s ys)))) (True ∧ ((((2 : Nat) = (2 : Nat)) ∧ ((2 : Nat) ≤ (2 : Nat))) ∧ (True ∧ ((((2 : Nat) ≤ (2 : Nat)) ∧ True) ∧ (((True ∧ (True ∧ True)) ∧ (True ∧ True)) ∧ ((D.tup [(D.agg [(D.v (Value.bool Bool.false)), (D.v (Value.slice (Option.none) (0 : Nat) (0 : Nat)))]), (D.v (Value.int IntKind.i64 (1 : Int)))]) = (D.tup [(D.agg [(D.v (Value.bool (Decidable.decide (((iv xn xs) + (iv yn ys)) < (0 : Int))))), (D.ro (List.length (ofL ((iv xn xs) + (iv yn ys)))) (u32s (ofL ((iv xn xs) + (iv yn ys)))))]), (D.v (Value.int IntKind.i64 (0 : Int)))]))))))) (((2 : Nat) ≤ (2 : Nat)) ∧ (True ∧ ((((0 : Nat) < (2 : Nat)) ∧ (IsBool (D.v (Value.bool yn)))) ∧ (True ∧ (((1 : Nat) < (2 : Nat)) ∧ (((((u32s ys) = (u32s (unu (u32s ys)))) ∧ ((List.length ys) = (List.length (unu (u32s ys))))) ∧ ((((u32s xs) = (u32s (unu (u32s xs)))) ∧ ((List.length xs) = (List.length (unu (u32s xs))))) ∧ ((((unu (u32s xs)) = (dg (nv (unu (u32s xs))))) ∧ ((List.length (unu (u32s xs))) ≤ (200 : Nat))) ∧ (((unu (u32s ys)) = (dg (nv (unu (u32s ys))))) ∧ ((List.length (unu (u32s ys))) ≤ (200 : Nat)))))) ∧ (True ∧ (True ∧ ((((2 : Nat) = (2 : Nat)) ∧ ((2 : Nat) ≤ (2 : Nat))) ∧ (True ∧ ((((2 : Nat) ≤ (2 : Nat)) ∧ True) ∧ (((True ∧ (True ∧ True)) ∧ (True ∧ True)) ∧ ((D.tup [(D.agg [(D.v (Value.bool (Decidable.decide (((iv xn (unu (u32s xs))) + (iv yn (unu (u32s ys)))) < (0 : Int))))), (D.ro (List.length (ofL ((iv xn (unu (u32s xs))) + (iv yn (unu (u32s ys)))))) (u32s (ofL ((iv xn (unu (u32s xs))) + (iv yn (unu (u32s ys)))))))]), (D.v (Value.int IntKind.i64 (0 : Int)))]) = (D.tup [(D.agg [(D.v (Value.bool (Decidable.decide (((iv xn xs) + (iv yn ys)) < (0 : Int))))), (D.ro (List.length (ofL ((iv xn xs) + (iv yn ys)))) (u32s (ofL ((iv xn xs) + (iv yn ys)))))]), (D.v (Value.int IntKind.i64 (0 : Int)))]))))))))))))))))))))))))))))) (by kernel_rfl) ?_
  simp only [true_and, and_true, and_self, IsInt_lit, IsBool_lit, IsStr_lit, Bool.not_eq_true', Bool.not_eq_false', Bool.not_true, Bool.not_false, Int.reduceLE, Int.reduceLT, Int.reduceNeg, Nat.le_refl, Int.le_refl, Nat.reduceLT, Nat.reduceLeDiff, Nat.reduceEqDiff, D.v.injEq, D.tup.injEq, D.agg.injEq, D.ro.injEq, List.cons.injEq, Value.int.injEq, Value.bool.injEq, pcond_true, pcond_false, NamelessL, Nameless, Nat.reduceMul, Nat.reduceAdd, Nat.zero_add, Int.toNat_natCast, unu_u32s]
  obtain ⟨⟨gx, lx⟩, gy, ly⟩ := hpre
  rw [good_valid gx (by omega), good_valid gy (by omega)]
  exact ⟨by omega, by omega, ⟨gx.1, lx⟩, gy.1, ly⟩
def ent_iAdd : Ent := fun ds => match ds with
  | [.agg [.v (.bool xn), .ro n_xs ys_xs], .agg [.v (.bool yn), .ro n_ys ys_ys]] => some (.tup [d_int (decide (iv xn (unu ys_xs) + iv yn (unu ys_ys) < 0)) (ofL (iv xn (unu ys_xs) + iv yn (unu ys_ys))), .v (.int .i64 0)], (ys_ys = u32s (unu ys_ys) ∧ n_ys = (unu ys_ys).length) ∧ (ys_xs = u32s (unu ys_xs) ∧ n_xs = (unu ys_xs).length) ∧ (Good xn (unu ys_xs) ∧ (unu ys_xs).length ≤ 200) ∧ Good yn (unu ys_ys) ∧ (unu ys_ys).length ≤ 200)
  | _ => none
theorem ent_iAdd_ok : EntOk Try.prog 29 ent_iAdd := by
  intro ds d c h hc; unfold ent_iAdd at h; split at h
  · rename_i xn n_xs ys_xs yn n_ys ys_ys; obtain ⟨rfl, rfl⟩ := pair_inj h
    obtain ⟨⟨h1, h2⟩, hc⟩ := hc; subst h2; generalize (unu ys_ys) = ys at *; subst h1
    obtain ⟨⟨h1, h2⟩, hc⟩ := hc; subst h2; generalize (unu ys_xs) = xs at *; subst h1
    exact iAdd_pure _ xs _ ys hc
  · cases h
theorem lsum_pure (xn : Bool) (xs : List Nat) (yn : Bool) (ys : List Nat) (hpre : (Good xn xs ∧ xs.length ≤ 200) ∧ Good yn ys ∧ ys.length ≤ 200) : PureJ Try.prog 22 [.agg [.v (.bool xn), .ro xs.length (u32s xs)], .agg [.v (.bool yn), .ro ys.length (u32s ys)]] (d_int (decide (iv xn xs + iv yn ys < 0)) (ofL (iv xn xs + iv yn ys))) := by
  refine pureJ_of_vcx (call := (addPure 29 ent_iAdd noCalls)) (lp := fun _ => none) (N := 10) T_ok mixed (addPure_ok ent_iAdd_ok noCalls_ok) Try.func22 rfl (by decide) (by kernel_rfl) (by kernel_rfl) (LpAll.none _) (by first | trivial | (simp only [NamelessL, Nameless, and_self, and_true, true_and]; done) | (simp [NamelessL, Nameless, u32s_nameless, namelessL_ints, d_int]; done)) (by first | trivial | (simp only [NamelessL, Nameless, and_self, and_true, true_and]; done) | (simp [NamelessL, Nameless, u32s_nameless, namelessL_ints, d_int]; done)) ?_
  refine of_eq (B := (True ∧ (True ∧ (True ∧ (((2 : Nat) ≤ (2 : Nat)) ∧ (((2 : Nat) ≤ (2 : Nat)) ∧ (((((u32s ys) = (u32s (unu (u32s ys)))) ∧ ((List.length ys) = (List.length (unu (u32s ys))))) ∧ ((((u32s xs) = (u32s (unu (u32s xs)))) ∧ ((List.length xs) = (List.length (unu (u32s xs))))) ∧ (((Good xn (unu (u32s xs))) ∧ ((List.length (unu (u32s xs))) ≤ (200 : Nat))) ∧ ((Good yn (unu (u32s ys))) ∧ ((List.length (unu (u32s ys))) ≤ (200 : Nat)))))) ∧ (True ∧ (True ∧ (True ∧ (True ∧ ((((2 : Nat) = (2 : Nat)) ∧ ((2 : Nat) ≤ (2 : Nat))) ∧ (True ∧ (((2 : Nat) ≤ (2 : Nat)) ∧ ((((2 : Nat) = (2 : Nat)) ∧ ((2 : Nat) ≤ (2 : Nat))) ∧ ((((2 : Nat) ≤ (2 : Nat)) ∧ True) ∧ ((True ∧ (True ∧ True)) ∧ ((D.agg [(D.v (Value.bool (Decidable.decide (((iv xn (unu (u32s xs))) + (iv yn (unu (u32s ys)))) < (0 : Int))))), (D.ro (List.length (ofL ((iv xn (unu (u32s xs))) + (iv yn (unu (u32s ys)))))) (u32s (ofL ((iv xn (unu (u32s xs))) + (iv yn (unu (u32s ys)))))))]) = (D.agg [(D.v (Value.bool (Decidable.decide (((iv xn xs) + (iv yn ys)) < (0 : Int))))), (D.ro (List.length (ofL ((iv xn xs) + (iv yn ys)))) (u32s (ofL ((iv xn xs) + (iv yn ys)))))]))))))))))))))))))) (by kernel_rfl) ?_
  simp only [true_and, and_true, and_self, IsInt_lit, IsBool_lit, IsStr_lit, Bool.not_eq_true', Bool.not_eq_false', Bool.not_true, Bool.not_false, Int.reduceLE, Int.reduceLT, Int.reduceNeg, Nat.le_refl, Int.le_refl, Nat.reduceLT, Nat.reduceLeDiff, Nat.reduceEqDiff, D.v.injEq, D.tup.injEq, D.agg.injEq, D.ro.injEq, List.cons.injEq, Value.int.injEq, Value.bool.injEq, pcond_true, pcond_false, NamelessL, Nameless, Nat.reduceMul, Nat.reduceAdd, Nat.zero_add, Int.toNat_natCast, unu_u32s]
  exact hpre
def ent_lsum : Ent := fun ds => match ds with
  | [.agg [.v (.bool xn), .ro n_xs ys_xs], .agg [.v (.bool yn), .ro n_ys ys_ys]] => some (d_int (decide (iv xn (unu ys_xs) + iv yn (unu ys_ys) < 0)) (ofL (iv xn (unu ys_xs) + iv yn (unu ys_ys))), (ys_ys = u32s (unu ys_ys) ∧ n_ys = (unu ys_ys).length) ∧ (ys_xs = u32s (unu ys_xs) ∧ n_xs = (unu ys_xs).length) ∧ (Good xn (unu ys_xs) ∧ (unu ys_xs).length ≤ 200) ∧ Good yn (unu ys_ys) ∧ (unu ys_ys).length ≤ 200)
  | _ => none
theorem ent_lsum_ok : EntOk Try.prog 22 ent_lsum := by
  intro ds d c h hc; unfold ent_lsum at h; split at h
  · rename_i xn n_xs ys_xs yn n_ys ys_ys; obtain ⟨rfl, rfl⟩ := pair_inj h
    obtain ⟨⟨h1, h2⟩, hc⟩ := hc; subst h2; generalize (unu ys_ys) = ys at *; subst h1
    obtain ⟨⟨h1, h2⟩, hc⟩ := hc; subst h2; generalize (unu ys_xs) = xs at *; subst h1
    exact lsum_pure _ xs _ ys hc
  · cases h
theorem small_false (w : Int) (h0 : 0 ≤ w) : pcond (decide (w < 9223372036854775808)) ((IntKind.i64.wrap w = if fitsI w = true then w else 0) ∧ true = fitsI w) ((0 = if fitsI w = true then w else 0) ∧ false = fitsI w) := by
  have e : fitsI w = decide (w < 9223372036854775808) := by
    unfold fitsI
    rw [Bool.eq_iff_iff]; simp only [Bool.and_eq_true, decide_eq_true_eq]; omega
  rw [e]
  refine pcond_intro (fun h => ?_) (fun h => ?_)
  · rw [h, wrap_i64_of (by omega) (of_decide_eq_true h)]; exact ⟨rfl, rfl⟩
  · rw [h]; exact ⟨rfl, rfl⟩
theorem small_true (w : Int) (h0 : 0 ≤ w) (h1 : w < 18446744073709551616) (v : Int) (hv : v = -w) (Z : Prop) : pcond (decide (w ≤ 9223372036854775808)) ((IntKind.i64.wrap (IntKind.u64.wrap (0 - w)) = if fitsI v = true then v else 0) ∧ true = fitsI v) ((0 = if fitsI v = true then v else 0) ∧ false = fitsI v) := by
  subst hv
  have e : fitsI (-w) = decide (w ≤ 9223372036854775808) := by
    unfold fitsI
    rw [Bool.eq_iff_iff]; simp only [Bool.and_eq_true, decide_eq_true_eq]; omega
  rw [e]
  refine pcond_intro (fun h => ?_) (fun h => ?_)
  · have h2 := of_decide_eq_true h
    have e : IntKind.i64.wrap (IntKind.u64.wrap (0 - w)) = -w := by rw [wrap_u64, IntKind.wrap_i64]; omega
    rw [h, e]; exact ⟨rfl, rfl⟩
  · rw [h]; exact ⟨rfl, rfl⟩
theorem iCompare_pure (xn : Bool) (xs : List Nat) (yn : Bool) (ys : List Nat) (hpre : xs.length ≤ 1000000000000 ∧ ys.length ≤ 1000000000000) : PureJ Try.prog 25 [.agg [.v (.bool xn), .ro xs.length (u32s xs)], .agg [.v (.bool yn), .ro ys.length (u32s ys)]] (.v (.int .i64 (cmpI xn xs yn ys))) := by
  refine pureJ_of_vcx (call := (addPure 33 ent_iValid (addPure 65 ent_icompare noCalls))) (lp := fun _ => none) (N := 10) T_ok mixed (addPure_ok ent_iValid_ok (addPure_ok ent_icompare_ok noCalls_ok)) Try.func25 rfl (by decide) (by kernel_rfl) (by kernel_rfl) (LpAll.none _) (by first | trivial | (simp only [NamelessL, Nameless, and_self, and_true, true_and]; done) | (simp [NamelessL, Nameless, u32s_nameless, namelessL_ints]; done)) (by first | trivial | (simp only [NamelessL, Nameless, and_self, and_true, true_and]; done) | (simp [NamelessL, Nameless, u32s_nameless, namelessL_ints]; done)) ?_
  refine of_eq (B := (True ∧ (True ∧ (True ∧ (((2 : Nat) ≤ (2 : Nat)) ∧ (((((u32s xs) = (u32s (unu (u32s xs)))) ∧ ((List.length xs) = (List.length (unu (u32s xs))))) ∧ ((List.length (unu (u32s xs))) ≤ (1000000000000 : Nat))) ∧ (True ∧ (True ∧ (pcond (!(validL xn (unu (u32s xs)))) (True ∧ (True ∧ (True ∧ (True ∧ ((D.v (Value.int IntKind.i64 (0 : Int))) = (D.v (Value.int IntKind.i64 (cmpI xn xs yn ys)))))))) (((2 : Nat) ≤ (2 : Nat)) ∧ (((((u32s ys) = (u32s (unu (u32s ys)))) ∧ ((List.length ys) = (List.length (unu (u32s ys))))) ∧ ((List.length (unu (u32s ys))) ≤ (1000000000000 : Nat))) ∧ (True ∧ (True ∧ (pcond (!(validL yn (unu (u32s ys)))) (True ∧ (True ∧ (True ∧ ((D.v (Value.int IntKind.i64 (0 : Int))) = (D.v (Value.int IntKind.i64 (cmpI xn xs yn ys))))))) (True ∧ ((((0 : Nat) < (2 : Nat)) ∧ (IsBool (D.v (Value.bool xn)))) ∧ (True ∧ (pcond xn (True ∧ ((((0 : Nat) < (2 : Nat)) ∧ (IsBool (D.v (Value.bool yn)))) ∧ (True ∧ (True ∧ (pcond yn (True ∧ (((1 : Nat) < (2 : Nat)) ∧ (True ∧ (((1 : Nat) < (2 : Nat)) ∧ (((((u32s xs) = (u32s (unu (u32s xs)))) ∧ ((List.length xs) = (List.length (unu (u32s xs))))) ∧ ((((u32s ys) = (u32s (unu (u32s ys)))) ∧ ((List.length ys) = (List.length (unu (u32s ys))))) ∧ ((List.length (unu (u32s ys))) ≤ (1000000000000 : Nat)))) ∧ (True ∧ (True ∧ (True ∧ ((D.v (Value.int IntKind.i64 (cmpL (unu (u32s ys)) (unu (u32s xs))))) = (D.v (Value.int IntKind.i64 (cmpI xn xs yn ys)))))))))))) (True ∧ ((((0 : Nat) < (2 : Nat)) ∧ (IsBool (D.v (Value.bool xn)))) ∧ (True ∧ (pcond xn (True ∧ (True ∧ (True ∧ ((D.v (Value.int IntKind.i64 (-(1 : Int)))) = (D.v (Value.int IntKind.i64 (cmpI xn xs yn ys))))))) (True ∧ ((((0 : Nat) < (2 : Nat)) ∧ (IsBool (D.v (Value.bool yn)))) ∧ (True ∧ (pcond yn (True ∧ (True ∧ (True ∧ ((D.v (Value.int IntKind.i64 (1 : Int))) = (D.v (Value.int IntKind.i64 (cmpI xn xs yn ys))))))) (True ∧ (((1 : Nat) < (2 : Nat)) ∧ (True ∧ (((1 : Nat) < (2 : Nat)) ∧ (((((u32s ys) = (u32s (unu (u32s ys)))) ∧ ((List.length ys) = (List.length (unu (u32s ys))))) ∧ ((((u32s xs) = (u32s (unu (u32s xs)))) ∧ ((List.length xs) = (List.length (unu (u32s xs))))) ∧ ((List.length (unu (u32s xs))) ≤ (1000000000000 : Nat)))) ∧ (True ∧ (True ∧ (True ∧ ((D.v (Value.int IntKind.i64 (cmpL (unu (u32s xs)) (unu (u32s ys))))) = (D.v (Value.int IntKind.i64 (cmpI xn xs yn ys))))))))))))))))))))))))) (True ∧ (True ∧ (True ∧ ((((0 : Nat) < (2 : Nat)) ∧ (IsBool (D.v (Value.bool xn)))) ∧ (True ∧ (pcond xn (True ∧ (True ∧ (True ∧ ((D.v (Value.int IntKind.i64 (-(1 : Int)))) = (D.v (Value.int IntKind.i64 (cmpI xn xs yn ys))))))) (True ∧ ((((0 : Nat) < (2 : Nat)) ∧ (IsBool (D.v (Value.bool yn)))) ∧ (True ∧ (pcond yn (True ∧ (True ∧ (True ∧ ((D.v (Value.int IntKind.i64 (1 : Int))) = (D.v (Value.int IntKind.i64 (cmpI xn xs yn ys))))))) (True ∧ (((1 : Nat) < (2 : Nat)) ∧ (True ∧ (((1 : Nat) < (2 : Nat)) ∧ (((((u32s ys) = (u32s (unu (u32s ys)))) ∧ ((List.length ys) = (List.length (unu (u32s ys))))) ∧ ((((u32s xs) = (u32s (unu (u32s xs)))) ∧ ((List.length xs) = (List.length (unu (u32s xs))))) ∧ ((List.length (unu (u32s xs))) ≤ (1000000000000 : Nat)))) ∧ (True ∧ (True ∧ (True ∧ ((D.v (Value.int IntKind.i64 (cmpL (unu (u32s xs)) (unu (u32s ys))))) = (D.v (Value.int IntKind.i64 (cmpI xn xs yn ys)))))))))))))))))))))))))))))))))))))))) (by kernel_rfl) ?_
  simp only [true_and, and_true, and_self, IsInt_lit, IsBool_lit, IsStr_lit, Bool.not_eq_true', Bool.not_eq_false', Bool.not_true, Bool.not_false, Int.reduceLE, Int.reduceLT, Int.reduceNeg, Nat.le_refl, Int.le_refl, Nat.reduceLT, Nat.reduceLeDiff, Nat.reduceEqDiff, D.v.injEq, D.tup.injEq, D.agg.injEq, D.ro.injEq, List.cons.injEq, Value.int.injEq, Value.bool.injEq, pcond_true, pcond_false, NamelessL, Nameless, Nat.reduceMul, Nat.reduceAdd, Nat.zero_add, Int.toNat_natCast, unu_u32s]
  obtain ⟨hp, hq⟩ := hpre
  cases xn <;> cases yn <;> refine ⟨hp, pcond_intro (fun h => ?_) (fun h => ⟨hq, pcond_intro (fun h1 => ?_) (fun h1 => ?_)⟩)⟩ <;> simp_all [cmpI, pcond]
def ent_iCompare : Ent := fun ds => match ds with
  | [.agg [.v (.bool xn), .ro n_xs ys_xs], .agg [.v (.bool yn), .ro n_ys ys_ys]] => some (.v (.int .i64 (cmpI xn (unu ys_xs) yn (unu ys_ys))), (ys_ys = u32s (unu ys_ys) ∧ n_ys = (unu ys_ys).length) ∧ (ys_xs = u32s (unu ys_xs) ∧ n_xs = (unu ys_xs).length) ∧ (unu ys_xs).length ≤ 1000000000000 ∧ (unu ys_ys).length ≤ 1000000000000)
  | _ => none
theorem ent_iCompare_ok : EntOk Try.prog 25 ent_iCompare := by
  intro ds d c h hc; unfold ent_iCompare at h; split at h
  · rename_i xn n_xs ys_xs yn n_ys ys_ys; obtain ⟨rfl, rfl⟩ := pair_inj h
    obtain ⟨⟨h1, h2⟩, hc⟩ := hc; subst h2; generalize (unu ys_ys) = ys at *; subst h1
    obtain ⟨⟨h1, h2⟩, hc⟩ := hc; subst h2; generalize (unu ys_xs) = xs at *; subst h1
    exact iCompare_pure _ xs _ ys hc
  · cases h
theorem known_pure : PureJ Try.prog 11 [] (.v (.bool true)) :=
  pure_of_ev T_ok mixed (base := fun _ _ _ => none) (fun _ _ _ _ _ _ h => by cases h) (N := 1000) (n := 50) Try.func11 rfl (by kernel_rfl)
def ent_known : Ent := fun ds => match ds with
  | [] => some (.v (.bool true), True)
  | _ => none
theorem ent_known_ok : EntOk Try.prog 11 ent_known := by
  intro ds d c h hc; unfold ent_known at h; split at h
  · obtain ⟨rfl, rfl⟩ := pair_inj h; exact known_pure
  · cases h
end Go.Proofs.Ythnhfkpihbjddaa
