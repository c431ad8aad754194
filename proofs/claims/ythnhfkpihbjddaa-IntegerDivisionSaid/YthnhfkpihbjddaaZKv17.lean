import Derived.Test.YthnhfkpihbjddaaZKv16
import Derived.Test.YthnhfkpihbjddaaZKv11
import Derived.Test.YthnhfkpihbjddaaZKv15
import Derived.Test.YthnhfkpihbjddaaZKv7
import Derived.Test.YthnhfkpihbjddaaZKv12
section
namespace Go.Proofs.Ythnhfkpihbjddaa
open Go.VD
set_option linter.unusedVariables false
set_option linter.unusedSimpArgs false
set_option maxRecDepth 100000
def dvS (ok z : Bool) (a b : Int) : (Bool × List Nat) × (Bool × List Nat) × Int := bif ok then (bif z then ((false, []), (false, []), 21) else ((decide (a / b < 0), ofL (a / b)), (false, ofL (a % b)), 0)) else ((false, []), (false, []), 1)
def d_dv (p : (Bool × List Nat) × (Bool × List Nat) × Int) : D := .tup [d_int p.1.1 p.1.2, d_int p.2.1.1 p.2.1.2, .v (.int .i64 p.2.2)]
theorem ediv_at {xn yn : Bool} {X Y Q R : Nat} (hY : 0 < Y) (hR : R < Y) (h : (if xn then -(X : Int) else X) = (Q : Int) * (if xn then -1 else 1) * Y + R) :
    (if xn then -(X : Int) else X) / (if yn then -(Y : Int) else Y) = (if (xn != yn) then -(Q : Int) else Q) ∧ (if xn then -(X : Int) else X) % (if yn then -(Y : Int) else Y) = (R : Int) := by
  have key := (Int.ediv_emod_unique (a := if xn then -(X : Int) else X) (b := (Y : Int)) (r := (R : Int)) (q := (Q : Int) * (if xn then -1 else 1)) (by omega)).2 ⟨by rw [h, Int.mul_comm (Y : Int)]; omega, by omega, by omega⟩
  obtain ⟨k1, k2⟩ := key
  cases yn with
  | false =>
    simp only [Bool.false_eq_true, if_false, k1, k2, and_true]
    cases xn <;> simp
  | true =>
    simp only [if_true, Int.ediv_neg, Int.emod_neg, k1, k2, and_true]
    cases xn <;> simp
theorem dv_len {X Y : Nat} (hY : 0 < Y) : (dg (X / Y)).length ≤ (dg X).length ∧ (X % Y ≠ 0 → (dg (X / Y + 1)).length ≤ (dg X).length) := by
  refine ⟨dg_len_mono (Nat.div_le_self _ _), fun h => dg_len_mono ?_⟩
  have h1 : 2 ≤ Y := by
    rcases Nat.lt_or_ge Y 2 with h2 | h2
    · have : Y = 1 := by omega
      subst this; simp [Nat.mod_one] at h
    · exact h2
  have h2 : X ≠ 0 := fun e => by subst e; simp at h
  have h3 := Nat.div_add_mod X Y
  have h4 : 2 * (X / Y) ≤ Y * (X / Y) := Nat.mul_le_mul_right _ h1
  omega
theorem dv_val {xn yn : Bool} {xs ys : List Nat} {Q R : Nat} (hY : 0 < nv ys) (hR : R < nv ys) (hQ : (dg Q).length ≤ 400) (hy : (dg R).length ≤ 400)
    (h : (if xn then -(nv xs : Int) else nv xs) = (Q : Int) * (if xn then -1 else 1) * nv ys + R) :
    (sigN (xn != yn) (dg Q) = decide (iv xn xs / iv yn ys < 0) ∧ sigL (dg Q) = ofL (iv xn xs / iv yn ys)) ∧ (sigN false (dg R) = false ∧ sigL (dg R) = ofL (iv xn xs % iv yn ys)) := by
  obtain ⟨e1, e2⟩ := ediv_at (yn := yn) hY hR h
  have m1 := madeN_dg (xn != yn) Q
  have m2 := madeN_dg false R
  have hv : iv xn xs / iv yn ys = (if (xn != yn) then -(Q : Int) else Q) := e1
  have hr : iv xn xs % iv yn ys = (R : Int) := e2
  obtain ⟨s1, s2, s3⟩ := sig_ok (neg := (xn != yn)) (xs := dg Q) (v := iv xn xs / iv yn ys) (by rw [m1.1, hv]; clear hr hv e1 e2 h; cases (xn != yn) <;> rw [Bool.eq_iff_iff] <;> simp <;> omega) (by rw [m1.2, hv]; unfold ofL; cases (xn != yn) <;> simp)
  obtain ⟨t1, t2, t3⟩ := sig_ok (neg := false) (xs := dg R) (v := iv xn xs % iv yn ys) (by rw [m2.1, hr]; simp) (by rw [m2.2, hr]; unfold ofL; simp)
  have l1 : (ofL (iv xn xs / iv yn ys)).length ≤ 400 := by
    rw [hv]; unfold ofL; cases (xn != yn) <;> simpa using hQ
  have l2 : (ofL (iv xn xs % iv yn ys)).length ≤ 400 := by
    rw [hr]; unfold ofL; simpa using hy
  rw [s1, s2, t1, t2]
  unfold okS
  simp only [l1, l2, decide_true, cond_true, true_and, and_true]
  rw [hr]; simp
theorem neg_aux (a b : Int) : -(a * b + ((0 : Nat) : Int)) = a * -1 * b + ((0 : Nat) : Int) := by
  simp only [Int.natCast_zero, Int.add_zero, Int.mul_neg, Int.mul_one, Int.neg_mul]
theorem neg_aux2 (a b : Int) : (a + ((1 : Nat) : Int)) * -1 * b = -(a * b) - b := by
  simp only [Int.natCast_one, Int.mul_neg, Int.mul_one, Int.neg_mul, Int.add_mul, Int.one_mul]; omega
theorem hDivide_pure (xn : Bool) (xs : List Nat) (yn : Bool) (ys : List Nat) (hpre : LenOk xs ∧ LenOk ys) : PureJ Try.prog 13 [.agg [.v (.bool xn), .ro xs.length (u32s xs)], .agg [.v (.bool yn), .ro ys.length (u32s ys)]] (d_dv (dvS (validL xn xs && validL yn ys) (decide (nv ys = 0)) (iv xn xs) (iv yn ys))) := by
  refine pureJ_of_vcpN (call := (addPure 33 ent_iValid (addPure 51 ent_idiv (addPure 52 ent_iadd (addPure 53 ent_isub (addPure 54 ent_isigned noCalls)))))) (lp := fun _ => none) (N := 10) T_ok mixed (addPure_ok ent_iValid_ok (addPure_ok ent_idiv_ok (addPure_ok ent_iadd_ok (addPure_ok ent_isub_ok (addPure_ok ent_isigned_ok noCalls_ok))))) Try.func13 rfl (by decide) (by kernel_rfl) (by kernel_rfl) (LpAllP.none _) (by (simp [NamelessL, Nameless, d_dv, d_int, u32s_nameless]; done)) (by (simp [NamelessL, Nameless, d_dv, d_int, u32s_nameless]; done)) ?_
  refine of_eq (B := letI z5 := (dvS ((validL xn xs) && (validL yn ys)) (Decidable.decide ((nv ys) = (0 : Nat))) (iv xn xs) (iv yn ys)); letI z35 := (Prod.snd (Prod.fst z5)); letI z26 := (Prod.fst (Prod.snd z5)); letI z0 := (D.tup [(D.agg [(D.v (Value.bool (Prod.fst (Prod.fst z5)))), (D.ro (List.length z35) (u32s z35))]), (D.agg [(D.v (Value.bool (Prod.fst z26))), (D.ro (List.length (Prod.snd z26)) (u32s (Prod.snd z26)))]), (D.v (Value.int IntKind.i64 (Prod.snd (Prod.snd z5))))]); letI z38 := ((0 : Nat) < (2 : Nat)); letI z16 := (z38 ∧ (IsBool (D.v (Value.bool xn)))); letI z24 := (z38 ∧ (IsBool (D.v (Value.bool yn)))); letI z15 := (unu (u32s xs)); letI z11 := (unu (u32s ys)); letI z32 := (dg ((nv z15) / (nv z11))); letI z3 := (u32s z32); letI z27 := (List.length (unu z3)); letI z18 := ((z3 = (u32s (unu z3))) ∧ ((List.length z32) = z27)); letI z28 := (1000000 : Nat); letI z8 := ((2 : Nat) ≤ (2 : Nat)); letI z4 := (((2 : Nat) = (2 : Nat)) ∧ z8); letI z2 := (dg ((nv z15) % (nv z11))); letI z14 := (unu (u32s z2)); letI z31 := List.length z14; letI z20 := (((u32s z2) = (u32s z14)) ∧ ((List.length z2) = z31)); letI z37 := Bool.true = Bool.true; letI z23 := (z8 ∧ (z8 ∧ True)); letI z33 := (True ∧ (True ∧ True)); letI z9 := (z33 ∧ (z33 ∧ (True ∧ True))); letI z29 := (D.v (Value.int IntKind.i64 (0 : Int))); letI z1 := (True ∧ (z16 ∧ (True ∧ (z24 ∧ (True ∧ (True ∧ ((z18 ∧ (z27 ≤ z28)) ∧ (True ∧ (True ∧ (True ∧ (z4 ∧ (True ∧ ((z20 ∧ (z31 ≤ z28)) ∧ (True ∧ (True ∧ (True ∧ (z4 ∧ (z8 ∧ (z8 ∧ (z4 ∧ (z4 ∧ (True ∧ (z37 ∧ (z23 ∧ (z9 ∧ ((D.tup [(D.agg [(D.v (Value.bool (sigN (!(xn == yn)) (unu z3)))), (D.ro (List.length (sigL (unu z3))) (u32s (sigL (unu z3))))]), (D.agg [(D.v (Value.bool (sigN Bool.false z14))), (D.ro (List.length (sigL z14)) (u32s (sigL z14)))]), z29]) = z0)))))))))))))))))))))))))); letI z12 := (D.agg [(D.v (Value.bool Bool.false)), (D.ro (0 : Nat) ([] : List D))]); letI z6 := (True ∧ (True ∧ (z4 ∧ (z4 ∧ (True ∧ (z23 ∧ (z9 ∧ ((D.tup [z12, z12, (D.v (Value.int IntKind.i64 (1 : Int)))]) = z0)))))))); letI z7 := (dg ((nv z11) - (nv z14))); letI z30 := (dg ((nv (unu z3)) + (1 : Nat))); letI z10 := (u32s z30); letI z25 := List.length z11; letI z13 := (((u32s ys) = (u32s z11)) ∧ ((List.length ys) = z25)); letI z17 := (D.v (Value.int IntKind.u32 (1 : Int))); letI z19 := (((u32s xs) = (u32s z15)) ∧ ((List.length xs) = (List.length z15))); letI z21 := ((1 : Nat) < (2 : Nat)); letI z22 := (unu (u32s z7)); letI z34 := (400000 : Nat); letI z36 := (List.length (unu z10)); letI z39 := (1000000000000 : Nat); (True ∧ (True ∧ (True ∧ (True ∧ (True ∧ (z8 ∧ ((z19 ∧ ((List.length z15) ≤ z39)) ∧ (True ∧ (True ∧ (pcond (!(validL xn z15)) (True ∧ z6) (z8 ∧ ((z13 ∧ (z25 ≤ z39)) ∧ (True ∧ (True ∧ (pcond (!(validL yn z11)) z6 (True ∧ (z21 ∧ (True ∧ (True ∧ (pcond ((((List.length ys) : Nat) : Int) == (0 : Int)) (True ∧ (True ∧ (z4 ∧ (z4 ∧ (True ∧ (z23 ∧ (z9 ∧ ((D.tup [z12, z12, (D.v (Value.int IntKind.i64 (21 : Int)))]) = z0)))))))) (True ∧ (z21 ∧ (True ∧ (z21 ∧ (((z19 ∧ z13) ∧ (dHyp z15 z11)) ∧ (True ∧ (True ∧ (True ∧ (True ∧ (True ∧ (True ∧ (z16 ∧ (True ∧ (pcond xn (True ∧ (True ∧ (True ∧ (True ∧ (pcond (Decidable.decide ((0 : Int) < (((List.length z2) : Nat) : Int))) (True ∧ ((((1 : Nat) ≤ (16777216 : Nat)) ∧ ((1 : Nat) ≤ (9223372036854775807 : Nat))) ∧ (((True ∧ (((NamelessL [z17]) ∧ (((0 : Nat) < (1 : Nat)) ∧ ((1 : Nat) ≤ (1 : Nat)))) ∧ True)) ∧ ((([z17] = (u32s (unu [z17]))) ∧ ((1 : Nat) = (1 : Nat))) ∧ (z18 ∧ ((z27 ≤ z34) ∧ (((1 : Nat) ≤ z34) ∧ ((Dig (unu z3)) ∧ (Dig (unu [z17])))))))) ∧ (True ∧ (True ∧ (z21 ∧ (True ∧ ((z20 ∧ (z13 ∧ (((z25 ≤ z34) ∧ ((z31 ≤ z25) ∧ ((Dig z11) ∧ (Dig z14)))) ∧ ((nv z14) ≤ (nv z11))))) ∧ (True ∧ (True ∧ (z16 ∧ (True ∧ (z24 ∧ (True ∧ (True ∧ ((((z10 = (u32s (unu z10))) ∧ ((List.length z30) = z36)) ∧ (z36 ≤ z28)) ∧ (True ∧ (True ∧ (True ∧ (z4 ∧ (True ∧ (((((u32s z7) = (u32s z22)) ∧ ((List.length z7) = (List.length z22))) ∧ ((List.length z22) ≤ z28)) ∧ (True ∧ (True ∧ (True ∧ (z4 ∧ (z8 ∧ (z8 ∧ (z4 ∧ (z4 ∧ (True ∧ (z37 ∧ (z23 ∧ (z9 ∧ ((D.tup [(D.agg [(D.v (Value.bool (sigN (!(xn == yn)) (unu z10)))), (D.ro (List.length (sigL (unu z10))) (u32s (sigL (unu z10))))]), (D.agg [(D.v (Value.bool (sigN Bool.false z22))), (D.ro (List.length (sigL z22)) (u32s (sigL z22)))]), z29]) = z0))))))))))))))))))))))))))))))))))) z1))))) (True ∧ z1)))))))))))))))))))))))))))))))))))) (by kernel_rfl) ?_
  simp only [true_and, and_true, and_self, IsInt_lit, IsBool_lit, IsStr_lit, Bool.not_eq_true', Bool.not_eq_false', Bool.not_true, Bool.not_false, Int.reduceLE, Int.reduceLT, Int.reduceNeg, Nat.le_refl, Int.le_refl, Nat.reduceLT, Nat.reduceLeDiff, Nat.reduceEqDiff, D.v.injEq, D.tup.injEq, D.agg.injEq, D.ro.injEq, List.cons.injEq, Value.int.injEq, Value.bool.injEq, pcond_true, pcond_false, NamelessL, Nameless, Nat.reduceMul, Nat.reduceAdd, Nat.zero_add, Int.toNat_natCast, unu_u32s]
  obtain ⟨⟨lx, dx⟩, ly, dy⟩ := hpre
  have hone : unu [D.v (Value.int IntKind.u32 1)] = [1] := unu_u32s [1]
  refine ⟨by omega, pcond_intro (fun h => ?_) (fun h => ⟨by omega, pcond_intro (fun h2 => ?_) (fun h2 => pcond_intro (fun h3 => ?_) (fun h3 => ?_))⟩)⟩
  · simp only [Bool.not_eq_true'] at h; simp [dvS, h, u32s]
  · simp only [Bool.not_eq_true', Bool.not_eq_false'] at h h2; simp [dvS, h, h2, u32s]
  · simp only [Bool.not_eq_false', beq_iff_eq] at h h2 h3
    have : ys = [] := List.eq_nil_of_length_eq_zero (by omega)
    subst this
    simp [dvS, h, h2, u32s, nv]
  · simp only [Bool.not_eq_false', beq_eq_false_iff_ne, ne_eq] at h h2 h3
    obtain ⟨gx, lx4⟩ := valid_good dx h
    obtain ⟨gy, ly4⟩ := valid_good dy h2
    have hY : 0 < nv ys := by
      rcases Nat.eq_zero_or_pos (nv ys) with h0 | h0
      · have e := gy.1
        rw [h0, dg_zero] at e
        rw [e] at h3; simp at h3
      · exact h0
    have hY0 : decide (nv ys = 0) = false := by simp; omega
    have hm := Nat.mod_lt (nv xs) hY
    have hdm := Nat.div_add_mod (nv xs) (nv ys)
    obtain ⟨l1, l2⟩ := dv_len (X := nv xs) hY
    have lrem : (dg (nv xs % nv ys)).length ≤ ys.length := by
      have := dg_len_mono (Nat.le_of_lt hm)
      rwa [← gy.1] at this
    rw [← gx.1] at l1 l2
    have hdv : ∀ Q R : Nat, R < nv ys → (dg Q).length ≤ 400 → (dg R).length ≤ 400 → (if xn then -(nv xs : Int) else nv xs) = (Q : Int) * (if xn then -1 else 1) * nv ys + R →
        (sigN (xn != yn) (dg Q) = (dvS true false (iv xn xs) (iv yn ys)).1.1 ∧ sigL (dg Q) = (dvS true false (iv xn xs) (iv yn ys)).1.2) ∧ sigN false (dg R) = (dvS true false (iv xn xs) (iv yn ys)).2.1.1 ∧ sigL (dg R) = (dvS true false (iv xn xs) (iv yn ys)).2.1.2 := fun Q R h1 h2 h3 h4 => dv_val hY h1 h2 h3 h4
    have hpos : ((nv xs : Nat) : Int) = ((nv xs / nv ys : Nat) : Int) * (nv ys : Int) + ((nv xs % nv ys : Nat) : Int) := by
      rw [← Int.natCast_mul, Nat.mul_comm (nv xs / nv ys)]; omega
    have hnb : (!xn == yn) = (xn != yn) := rfl
    simp only [h, h2, hY0, Bool.and_self, hnb, nv_dg, hone]
    refine ⟨⟨⟨⟨by omega, by omega⟩, gx.1, gy.1⟩, hY⟩, pcond_intro (fun h4 => pcond_intro (fun h5 => ?_) (fun h5 => ?_)) (fun h4 => ?_)⟩
    · simp only [decide_eq_true_eq] at h5
      have hR : nv xs % nv ys ≠ 0 := fun e => by rw [e, dg_zero] at h5; simp at h5
      obtain ⟨⟨v1, v2⟩, v3, v4⟩ := hdv (nv xs / nv ys + 1) (nv ys - nv xs % nv ys) (by omega) (Nat.le_trans (l2 hR) lx4) (Nat.le_trans (by
        have := dg_len_mono (show nv ys - nv xs % nv ys ≤ nv ys by omega)
        rwa [← gy.1] at this) ly4) (by
        subst h4
        simp only [if_true]
        have : ((nv xs / nv ys + 1 : Nat) : Int) * -1 * (nv ys : Int) = -(((nv xs / nv ys : Nat) : Int) * (nv ys : Int)) - (nv ys : Int) := by
          rw [Int.natCast_add]; exact neg_aux2 _ _
        rw [this]; omega)
      have l3 := l2 hR
      have l4 := dg_len_mono (show nv ys - nv xs % nv ys ≤ nv ys by omega)
      rw [← gy.1] at l4
      rw [v1, v2, v3, v4]
      exact ⟨⟨rfl, by omega, dg_dig _, by simp [Dig]⟩, ⟨⟨by omega, lrem, dy, dg_dig _⟩, by omega⟩, by omega, by omega, ⟨rfl, rfl, rfl⟩, ⟨rfl, rfl, rfl⟩, rfl⟩
    · simp only [decide_eq_false_iff_not] at h5
      have hR : nv xs % nv ys = 0 := by
        refine Classical.byContradiction fun hne => ?_
        rw [dg_pos hne] at h5
        simp at h5
      rw [hR] at hpos ⊢
      obtain ⟨⟨v1, v2⟩, v3, v4⟩ := hdv (nv xs / nv ys) 0 hY (Nat.le_trans l1 lx4) (by rw [dg_zero]; simp) (by
        subst h4
        simp only [if_true]
        rw [hpos]
        exact neg_aux _ _)
      rw [v1, v2, v3, v4]
      exact ⟨by omega, by rw [dg_zero]; simp, ⟨rfl, rfl, rfl⟩, ⟨rfl, rfl, rfl⟩, rfl⟩
    · obtain ⟨⟨v1, v2⟩, v3, v4⟩ := hdv (nv xs / nv ys) (nv xs % nv ys) hm (Nat.le_trans l1 lx4) (Nat.le_trans lrem ly4) (by
        subst h4
        simp only [Bool.false_eq_true, if_false, Int.mul_one]
        exact hpos)
      rw [v1, v2, v3, v4]
      exact ⟨by omega, by omega, ⟨rfl, rfl, rfl⟩, ⟨rfl, rfl, rfl⟩, rfl⟩
def ent_hDivide : Ent := fun ds => match ds with
  | [.agg [.v (.bool xn), .ro n_xs ys_xs], .agg [.v (.bool yn), .ro n_ys ys_ys]] => some (d_dv (dvS (validL xn (unu ys_xs) && validL yn (unu ys_ys)) (decide (nv (unu ys_ys) = 0)) (iv xn (unu ys_xs)) (iv yn (unu ys_ys))), (ys_ys = u32s (unu ys_ys) ∧ n_ys = (unu ys_ys).length) ∧ (ys_xs = u32s (unu ys_xs) ∧ n_xs = (unu ys_xs).length) ∧ LenOk (unu ys_xs) ∧ LenOk (unu ys_ys))
  | _ => none
theorem ent_hDivide_ok : EntOk Try.prog 13 ent_hDivide := by
  intro ds d c h hc; unfold ent_hDivide at h; split at h
  · rename_i xn n_xs ys_xs yn n_ys ys_ys; obtain ⟨rfl, rfl⟩ := pair_inj h
    obtain ⟨⟨h1, h2⟩, hc⟩ := hc; subst h2; generalize (unu ys_ys) = ys at *; subst h1
    obtain ⟨⟨h1, h2⟩, hc⟩ := hc; subst h2; generalize (unu ys_xs) = xs at *; subst h1
    exact hDivide_pure _ xs _ ys hc
  · cases h
end Go.Proofs.Ythnhfkpihbjddaa
end
section
namespace Go.Proofs.Ythnhfkpihbjddaa
open Go.VD
set_option linter.unusedVariables false
set_option linter.unusedSimpArgs false
set_option maxRecDepth 100000
def shT (xs : List Nat) (n i : Nat) : List Nat := dgn (i + 1) (nv (xs.take i) * 2 ^ n) ++ List.replicate (xs.length - i) 0
theorem shT_length {xs : List Nat} {n i : Nat} (h : i ≤ xs.length) : (shT xs n i).length = xs.length + 1 := by simp [shT, dgn_length]; omega
theorem shT_eq {xs : List Nat} {n i : Nat} (hx : Dig xs) (hn : n < 32) (h : i ≤ xs.length) : shT xs n i = dgn i (nv (xs.take i) * 2 ^ n) ++ lowT xs n i :: List.replicate (xs.length - i) 0 := by
  have hl := lowT_lt (n := n) hx h
  obtain ⟨_, hp⟩ := pow32 hn
  unfold shT
  rw [dgn_succ, List.append_assoc]
  congr 1
  have : nv (xs.take i) * 2 ^ n / 4294967296 ^ i % 4294967296 = lowT xs n i := by unfold lowT at *; exact Nat.mod_eq_of_lt (by omega)
  rw [this]; rfl
theorem shT_get {xs : List Nat} {n i : Nat} (hx : Dig xs) (hn : n < 32) (h : i ≤ xs.length) : (shT xs n i).getD i 0 = lowT xs n i := by
  rw [shT_eq hx hn h, List.getD_eq_getElem?_getD, List.getElem?_append_right (by rw [dgn_length]; exact Nat.le_refl _), dgn_length, Nat.sub_self]; rfl
theorem shT_set {xs : List Nat} {n i : Nat} (hx : Dig xs) (hn : n < 32) (h : i < xs.length) : ((shT xs n i).set i (xs.getD i 0 * 2 ^ n % 4294967296 + lowT xs n i)).set (i + 1) (lowT xs n (i + 1)) = shT xs n (i + 1) := by
  have e1 : dgn i (nv (xs.take (i + 1)) * 2 ^ n) = dgn i (nv (xs.take i) * 2 ^ n) := by
    rw [nv_take_succ xs i h, Nat.add_mul, show xs.getD i 0 * 4294967296 ^ i * 2 ^ n = 4294967296 ^ i * (xs.getD i 0 * 2 ^ n) by grind, dgn_mod]
  rw [(shl_step hx hn h).1, shT_eq hx hn (show i ≤ xs.length by omega), shT_eq hx hn (show i + 1 ≤ xs.length by omega), dgn_succ i, e1]
  rw [List.set_append_right _ _ (by rw [dgn_length]; exact Nat.le_refl _), dgn_length, Nat.sub_self, List.set_cons_zero]
  rw [List.set_append_right _ _ (by rw [dgn_length]; omega), dgn_length, show i + 1 - i = 1 by omega, show xs.length - i = (xs.length - (i + 1)) + 1 by omega, List.replicate_succ]
  simp
theorem or_shl2 {a n b : Nat} (hn : n < 32) (hb : b < 2 ^ n) : Go.bits .or .u32 (b : Int) ((2 ^ n * (a % 2 ^ (32 - n)) : Nat) : Int) = ((2 ^ n * (a % 2 ^ (32 - n)) + b : Nat) : Int) := by
  have e0 := two32 hn
  obtain ⟨hp, _⟩ := pow32 hn
  have hm := Nat.mod_lt a (show 0 < 2 ^ (32 - n) from Nat.pow_pos (by decide))
  have h1 : 2 ^ n * (a % 2 ^ (32 - n) + 1) ≤ 2 ^ n * 2 ^ (32 - n) := Nat.mul_le_mul_left _ hm
  rw [Nat.mul_add, Nat.mul_one, ← e0] at h1
  have := or_shl (a := a) hn hb
  rw [bits_or_u32_nat _ _ (by omega) (by omega)] at this
  rw [bits_or_u32_nat _ _ (by omega) (by omega), Nat.or_comm]
  exact this
def lp_gsh (xs : List Nat) (n : Nat) : LoopO := loopRuleD (α := Nat) (β := Unit) (fun i => i ≤ xs.length)
  (fun i => [(0, .ro xs.length (u32s xs)), (1, .v (.int .i64 (n : Int))), (5, d_out (xs.length + 1)), (6, .v (.int .i64 (i : Int)))])
  (fun i => d_blk (shT xs n i)) 0 (fun _ => True) (fun _ => (.exit 0, [(5, d_out (xs.length + 1))], d_blk (dgn (xs.length + 1) (nv xs * 2 ^ n))))
theorem gsh_rule (xs : List Nat) (n : Nat) (hpre : (xs.length ≤ 1000000 ∧ Dig xs) ∧ n < 32) : LRule Try.prog Try.f99.ntmps (loopAt ((Try.f99.body).getD .skip) 3) (lp_gsh xs n) := by
  refine lruleD_of (α := Nat) (β := Unit) (call := noCalls) (lp := fun _ => none) (N := 10) T_ok mixed noCalls_ok (fun i => xs.length - i) (by kernel_rfl) (LpAll.none _) ?_
  intro i hJ
  refine of_eq (B := letI z7 := (u32s (shT xs n i)); letI z6 := ((i : Nat) : Int); letI z1 := ((Int.toNat z6) * (1 : Nat)); letI z10 := ((0 : Nat) + z1); letI z15 := (List.getD z7 z10 (Inhabited.default)); letI z11 := (List.getD (u32s xs) z1 (Inhabited.default)); letI z12 := (IntKind.wrap IntKind.u64 ((n : Nat) : Int)); letI z4 := (IntKind.wrap IntKind.u64 ((IntKind.wrap IntKind.u64 (cellInt z11)) * ((2 : Int) ^ (Min.min (Int.toNat z12) (64 : Nat))))); letI z0 := (List.set z7 z10 (D.v (Value.int IntKind.u32 (bits BinOp.or IntKind.u32 (cellInt z15) (IntKind.wrap IntKind.u32 z4))))); letI z5 := List.length xs; letI z13 := (z5 + (1 : Nat)); letI z2 := (Option.some (D.sl (0 : Nat) (0 : Nat) z13 (Cap.toEnd (1 : Nat)))); letI z3 := (IntKind.wrap IntKind.i64 (z6 + (1 : Int))); letI z19 := ((z13 : Nat) : Int); letI z8 := (((0 : Int) ≤ z6) ∧ (z6 < z19)); letI z9 := (Option.some (D.v (Value.int IntKind.i64 ((n : Nat) : Int)))); letI z14 := ((0 : Nat) + ((Int.toNat z3) * (1 : Nat))); letI z16 := (Option.some (D.ro z5 (u32s xs))); letI z17 := ((1 : Nat) = (1 : Nat)); letI z18 := (Exit.exit (0 : Nat)); (True ∧ (True ∧ (True ∧ (True ∧ (pcond (Decidable.decide (z6 < ((z5 : Nat) : Int))) (True ∧ (True ∧ ((((0 : Int) ≤ z6) ∧ (z6 < ((z5 : Nat) : Int))) ∧ (((z1 < (List.length (u32s xs))) ∧ (IsInt IntKind.u32 z11)) ∧ (True ∧ (True ∧ (True ∧ (((0 : Int) ≤ z12) ∧ (True ∧ (True ∧ (True ∧ (True ∧ (True ∧ (z8 ∧ (((z10 < (List.length z7)) ∧ (IsInt IntKind.u32 z15)) ∧ (True ∧ (True ∧ (True ∧ (z8 ∧ ((z17 ∧ ((z10 + (1 : Nat)) ≤ (List.length z7))) ∧ (True ∧ (True ∧ (True ∧ (True ∧ (((0 : Int) ≤ (32 : Int)) ∧ (True ∧ ((((0 : Int) ≤ z3) ∧ (z3 < z19)) ∧ ((z17 ∧ ((z14 + (1 : Nat)) ≤ (List.length z0))) ∧ (True ∧ (True ∧ (True ∧ (∃ (y : Nat), (((z5 - y) < (z5 - i)) ∧ ((y ≤ z5) ∧ (((z16 = z16) ∧ ((z9 = z9) ∧ ((z2 = z2) ∧ (((Option.some (D.v (Value.int IntKind.i64 z3))) = (Option.some (D.v (Value.int IntKind.i64 ((y : Nat) : Int))))) ∧ True)))) ∧ ([(Option.some (Blk.mk (41 : Nat) (List.set z0 z14 (D.v (Value.int IntKind.u32 (IntKind.wrap IntKind.u32 (Int.fdiv z4 (4294967296 : Int)))))) Bool.true))] = [(Option.some (Blk.mk (41 : Nat) (u32s (shT xs n y)) Bool.true))])))))))))))))))))))))))))))))))))))) (∃ (r : Unit), (True ∧ ((z18 = z18) ∧ (((z2 = z2) ∧ True) ∧ ([(Option.some (Blk.mk (41 : Nat) z7 Bool.true))] = [(Option.some (Blk.mk (41 : Nat) (u32s (dgn z13 ((nv xs) * ((2 : Nat) ^ n)))) Bool.true))]))))))))))) (by kernel_rfl) ?_
  simp only [true_and, and_true, and_self, IsInt_lit, IsBool_lit, IsStr_lit, Bool.not_eq_true', Bool.not_eq_false', Bool.not_true, Bool.not_false, Int.reduceLE, Int.reduceLT, Int.reduceNeg, Nat.le_refl, Int.le_refl, Nat.reduceLT, Nat.reduceLeDiff, Nat.reduceEqDiff, D.v.injEq, D.tup.injEq, D.agg.injEq, D.ro.injEq, List.cons.injEq, Value.int.injEq, Value.bool.injEq, pcond_true, pcond_false, NamelessL, Nameless, Nat.reduceMul, Nat.reduceAdd, Nat.zero_add, Int.toNat_natCast]
  obtain ⟨⟨hb, hx⟩, hn⟩ := hpre
  refine pcond_intro (fun h => ?_) (fun h => ?_)
  · simp only [decide_eq_true_eq] at h
    have h : i < xs.length := by omega
    obtain ⟨s1, s2, s3⟩ := shl_step hx hn h
    have hl := lowT_lt (n := n) hx (show i ≤ xs.length by omega)
    have hs := shT_set hx hn h
    have hg := shT_get hx hn (show i ≤ xs.length by omega)
    have hd := hx.get i
    obtain ⟨hp0, hp⟩ := pow32 hn
    have e0 := two32 hn
    have hml : xs.getD i 0 * 2 ^ n < 18446744073709551616 := by
      have : xs.getD i 0 * 2 ^ n ≤ 4294967295 * 2147483648 := Nat.mul_le_mul (by omega) hp
      omega
    have w0 : IntKind.u64.wrap (n : Int) = (n : Int) := wrap_u64_of (by omega) (by omega)
    have w1 : IntKind.u64.wrap (IntKind.u64.wrap ((xs.getD i 0 : Nat) : Int) * 2 ^ n) = ((xs.getD i 0 * 2 ^ n : Nat) : Int) := by
      rw [wrap_u64_of (n := ((xs.getD i 0 : Nat) : Int)) (by omega) (by omega)]
      have : ((xs.getD i 0 : Nat) : Int) * 2 ^ n = ((xs.getD i 0 * 2 ^ n : Nat) : Int) := by simp
      rw [this, wrap_u64_of (by omega) (by omega)]
    have w2 : IntKind.u32.wrap ((xs.getD i 0 * 2 ^ n : Nat) : Int) = ((xs.getD i 0 * 2 ^ n % 4294967296 : Nat) : Int) := by rw [wrap_u32]; omega
    have w3 : IntKind.u32.wrap (((xs.getD i 0 * 2 ^ n : Nat) : Int).fdiv 4294967296) = ((lowT xs n (i + 1) : Nat) : Int) := by
      have e : xs.getD i 0 * 2 ^ n / 4294967296 = lowT xs n (i + 1) := by
        rw [s2, e0, Nat.mul_comm, Nat.mul_div_mul_left _ _ hp0]
      rw [Int.fdiv_eq_ediv_of_nonneg _ (by omega), ← e, wrap_u32]; omega
    have w4 : IntKind.i64.wrap ((i : Int) + 1) = ((i + 1 : Nat) : Int) := by rw [wrap_i64_of (by omega) (by omega)]; omega
    have hor : Go.bits .or .u32 ((lowT xs n i : Nat) : Int) ((xs.getD i 0 * 2 ^ n % 4294967296 : Nat) : Int) = ((xs.getD i 0 * 2 ^ n % 4294967296 + lowT xs n i : Nat) : Int) := by rw [s3]; exact or_shl2 hn hl
    have hlen := shT_length (xs := xs) (n := n) (show i ≤ xs.length by omega)
    simp only [w0, Nat.mul_one, Int.toNat_natCast, u32s_cell, u32s_length, hlen, hg, show min n 64 = n by omega, w1, w2, w3, w4, hor, u32s_put, hs, List.length_set, u32s_isInt xs i h, u32s_isInt (shT xs n i) i (by omega), and_true]
    exact ⟨⟨by omega, by omega⟩, h, by omega, ⟨by omega, by omega⟩, by omega, ⟨by omega, by omega⟩, by omega, ⟨by omega, by omega⟩, by omega, i + 1, by omega, by omega, rfl, rfl⟩
  · simp only [decide_eq_false_iff_not] at h
    have h : i = xs.length := by omega
    subst h
    have : shT xs n xs.length = dgn (xs.length + 1) (nv xs * 2 ^ n) := by simp [shT]
    rw [this]
    exact ⟨(), rfl⟩
theorem kgsh (xs : List Nat) (n : Nat) (hpre : (xs.length ≤ 1000000 ∧ Dig xs) ∧ n < 32) : CallJ Try.prog 99 [.ro xs.length (u32s xs), .v (.int .i64 (n : Int))] [] (.sl 0 0 (xs.length + 1) (.toEnd 1)) [some ⟨41, u32s (dgn (xs.length + 1) (nv xs * 2 ^ n)), true⟩] := by
  refine callJ_same (call := noCalls) (lp := fun k' => bif Nat.beq k' 3 then some (lp_gsh xs n) else none) (N := 10) T_ok mixed noCalls_ok Try.func99 rfl (by decide) (by kernel_rfl) (by kernel_rfl)
    (of_eq (B := LRule Try.prog Try.f99.ntmps (loopAt ((Try.f99.body).getD .skip) 3) (lp_gsh xs n) ∧ True) (by kernel_rfl) ⟨gsh_rule xs n hpre, trivial⟩) ?_
  refine of_eq (B := letI z3 := List.length xs; letI z0 := (IntKind.wrap IntKind.i64 (((z3 : Nat) : Int) + (1 : Int))); letI z7 := (Cap.toEnd (1 : Nat)); letI z1 := (D.sl (0 : Nat) (0 : Nat) (z3 + (1 : Nat)) z7); letI z2 := (Option.some (Blk.mk (41 : Nat) (u32s (dgn (z3 + (1 : Nat)) ((nv xs) * ((2 : Nat) ^ n)))) Bool.true)); letI z4 := (Option.some (D.v (Value.int IntKind.i64 ((n : Nat) : Int)))); letI z5 := (Option.some (D.v (Value.int IntKind.i64 (0 : Int)))); letI z6 := (Option.some (D.ro z3 (u32s xs))); (True ∧ (True ∧ (True ∧ (True ∧ ((((0 : Int) ≤ z0) ∧ ((z0 ≤ z0) ∧ ((((4 : Int) * z0) ≤ (281474976710656 : Int)) ∧ (z0 ≤ (9223372036854775807 : Int))))) ∧ (True ∧ (True ∧ (((0 : Nat) ≤ z3) ∧ (((z6 = z6) ∧ ((z4 = z4) ∧ (((Option.some (D.sl (0 : Nat) (0 : Nat) (Int.toNat z0) z7)) = (Option.some z1)) ∧ ((z5 = z5) ∧ True)))) ∧ (([(Option.some (Blk.mk (41 : Nat) (List.replicate (Int.toNat z0) (D.v (Value.int IntKind.u32 (0 : Int)))) Bool.true))] = [(Option.some (Blk.mk (41 : Nat) (u32s (shT xs n (0 : Nat))) Bool.true))]) ∧ (Unit → (True → (True ∧ (True ∧ (True ∧ ((z1 = z1) ∧ ([z2] = [z2])))))))))))))))))) (by kernel_rfl) ?_
  obtain ⟨⟨hb, hx⟩, hn⟩ := hpre
  have hw : IntKind.i64.wrap ((xs.length : Int) + 1) = ((xs.length + 1 : Nat) : Int) := by rw [wrap_i64_of (by omega) (by omega)]; omega
  have e0 : List.replicate (xs.length + 1) (D.v (Value.int IntKind.u32 0)) = u32s (List.replicate (xs.length + 1) 0) := u32s_replicate _ 0
  have e1 : shT xs n 0 = List.replicate (xs.length + 1) 0 := by simp [shT, dgn, nv, List.replicate_succ]
  simp only [true_and, and_true, and_self, IsInt_lit, IsBool_lit, IsStr_lit, Bool.not_eq_true', Bool.not_eq_false', Bool.not_true, Bool.not_false, Int.reduceLE, Int.reduceLT, Int.reduceNeg, Nat.le_refl, Int.le_refl, Nat.reduceLT, Nat.reduceLeDiff, Nat.reduceEqDiff, D.v.injEq, D.tup.injEq, D.agg.injEq, D.ro.injEq, List.cons.injEq, Value.int.injEq, Value.bool.injEq, pcond_true, pcond_false, NamelessL, Nameless, Nat.reduceMul, Nat.reduceAdd, Nat.zero_add, Int.toNat_natCast, hw, Int.toNat_natCast, e0, e1]
  exact ⟨⟨by omega, by omega, by omega⟩, Nat.zero_le _, fun _ _ => trivial⟩
def entk_gsh : EntK := fun ds => match ds with
  | [.ro m cs, .v (.int .i64 n)] => some ((unu cs).length + 1, .toEnd 1, ⟨41, u32s (dgn ((unu cs).length + 1) (nv (unu cs) * 2 ^ n.toNat)), true⟩, (cs = u32s (unu cs) ∧ m = (unu cs).length) ∧ ((unu cs).length ≤ 1000000 ∧ Dig (unu cs)) ∧ 0 ≤ n ∧ n < 32)
  | _ => none
theorem entk_gsh_ok : EntKOk Try.prog 99 entk_gsh := by
  intro ds n c blk p h hp
  unfold entk_gsh at h
  split at h
  · rename_i m cs n
    simp only [Option.some.injEq, Prod.mk.injEq] at h
    obtain ⟨rfl, rfl, rfl, rfl⟩ := h
    obtain ⟨⟨hcs, hm⟩, hl, hn0, hn⟩ := hp
    obtain ⟨n, rfl⟩ := Int.eq_ofNat_of_zero_le hn0
    generalize unu cs = xs at *
    subst hcs; subst hm
    simp only [Int.toNat_natCast, Int.ofNat_eq_natCast] at *
    exact ⟨kgsh xs n ⟨hl, by omega⟩, by simp [NamelessL, Nameless, u32s_nameless], u32s_nameless _⟩
  · cases h
theorem shr_pair {a b n : Nat} (hn : n < 32) (ha : a < 4294967296) (hb : b < 4294967296) : (a + 4294967296 * b) / 2 ^ n % 4294967296 = a / 2 ^ n + 2 ^ (32 - n) * (b % 2 ^ n) := by
  have := (shr_digit (xs := [a, b]) (n := n) (i := 0) (by intro x hx; simp at hx; omega) hn (by simp)).1
  simpa [nv] using this
theorem or_shiftS {a b : Nat} (ha : a < 4294967296) (hb : b < 4294967296) : Go.bits BinOp.or IntKind.u64 (IntKind.u64.wrap (b : Int)) (IntKind.u64.wrap (IntKind.u64.wrap (a : Int) * 4294967296)) = ((b + 4294967296 * a : Nat) : Int) := by
  have h := or_shift ha hb
  have w1 : IntKind.u64.wrap ((a : Int) * 4294967296) = ((a * 4294967296 : Nat) : Int) := by rw [wrap_u64]; omega
  have w2 : IntKind.u64.wrap (b : Int) = (b : Int) := wrap_u64_of (by omega) (by omega)
  have w3 : IntKind.u64.wrap (a : Int) = (a : Int) := wrap_u64_of (by omega) (by omega)
  rw [w1, w2, bits_or_u64_nat _ _ (by omega) (by omega)] at h
  rw [w3, w1, w2, bits_or_u64_nat _ _ (by omega) (by omega), Nat.or_comm]
  exact h
def lp_backLoop (xs : List Nat) (n : Nat) : LoopO := loopRule (α := Nat) (β := Unit) [some 0] (fun i => i ≤ xs.length) (fun i => [(0, .ro xs.length (u32s xs)), (1, .v (.int .i64 (n : Int))), (5, d_out xs.length), (6, .v (.int .i64 (i : Int)))]) (fun i => d_blk (shrT xs n i)) (0) (fun _ => True) (fun _ => (.exit 0, [(5, d_out xs.length)], d_blk (shrT xs n xs.length)))
theorem backLoop_rule (xs : List Nat) (n : Nat) (hpre : (xs.length ≤ 1000000 ∧ Dig xs) ∧ n < 32) : LRuleP Try.prog Try.f64.ntmps (loopAt ((Try.f64.body).getD .skip) 3) (lp_backLoop xs n) := by
  refine lrule_of (α := Nat) (β := Unit) (call := noCalls) (lp := fun _ => none) (N := 10) T_ok mixed noCalls_ok (fun i => xs.length - i) (by kernel_rfl) (LpAllP.none _) ?_
  intro x hJ
  refine of_eq (B := letI z12 := ((x : Nat) : Int); letI z0 := (IntKind.wrap IntKind.i64 (z12 + (1 : Int))); letI z1 := List.length xs; letI z2 := ((Int.toNat z12) * (1 : Nat)); letI z3 := (Prod.mk (1 : Nat) (D.v (Value.int IntKind.i64 ((n : Nat) : Int)))); letI z17 := ((z1 : Nat) : Int); letI z4 := (((0 : Int) ≤ z12) ∧ (z12 < z17)); letI z5 := (Prod.mk (5 : Nat) (D.sl (0 : Nat) (0 : Nat) z1 (Cap.toEnd (1 : Nat)))); letI z6 := (IntKind.wrap IntKind.u64 ((n : Nat) : Int)); letI z7 := (Prod.mk (0 : Nat) (D.ro z1 (u32s xs))); letI z21 := ((0 : Nat) + z2); letI z14 := (u32s (shrT xs n x)); letI z8 := (((1 : Nat) = (1 : Nat)) ∧ ((z21 + (1 : Nat)) ≤ (List.length z14))); letI z19 := (Exit.exit (0 : Nat)); letI z13 := (Prod.mk (5 : Nat) (d_out z1)); letI z9 := (Prod.mk z19 (Prod.mk [z13] (d_blk (shrT xs n z1)))); letI z10 := (List.getD (u32s xs) z2 (Inhabited.default)); letI z22 := ((Int.toNat z0) * (1 : Nat)); letI z11 := (List.getD (u32s xs) z22 (Inhabited.default)); letI z15 := (Prod.mk (6 : Nat) (D.v (Value.int IntKind.i64 z0))); letI z16 := ((2 : Int) ^ (Min.min (Int.toNat z6) (64 : Nat))); letI z18 := (IntKind.wrap IntKind.u64 (cellInt z10)); letI z20 := (List (Option Nat)); letI z23 := (List.length (u32s xs)); (True ∧ (True ∧ (True ∧ (True ∧ (pcond (Decidable.decide (z12 < z17)) (True ∧ (True ∧ (z4 ∧ (((z2 < z23) ∧ (IsInt IntKind.u32 z10)) ∧ (True ∧ (True ∧ (True ∧ (True ∧ (True ∧ (True ∧ (True ∧ (pcond (Decidable.decide (z0 < z17)) (True ∧ (True ∧ (True ∧ (True ∧ ((((0 : Int) ≤ z0) ∧ (z0 < z17)) ∧ (((z22 < z23) ∧ (IsInt IntKind.u32 z11)) ∧ (True ∧ (((0 : Int) ≤ (32 : Int)) ∧ (True ∧ (True ∧ (True ∧ (True ∧ (True ∧ (True ∧ (True ∧ (((0 : Int) ≤ z6) ∧ (True ∧ (z4 ∧ (z8 ∧ (True ∧ (True ∧ (True ∧ (∃ (y : Nat), (∃ (kp : z20), (((z1 - y) < (z1 - x)) ∧ ((y ≤ z1) ∧ (viewAll kp [z7, z3, z5, z15] [(Option.some (Blk.mk (41 : Nat) (List.set z14 z21 (D.v (Value.int IntKind.u32 (IntKind.wrap IntKind.u32 (Int.fdiv (bits BinOp.or IntKind.u64 z18 (IntKind.wrap IntKind.u64 ((IntKind.wrap IntKind.u64 (cellInt z11)) * (4294967296 : Int)))) z16))))) Bool.true))] [z7, z3, z13, (Prod.mk (6 : Nat) (D.v (Value.int IntKind.i64 ((y : Nat) : Int))))] (d_blk (shrT xs n y))))))))))))))))))))))))))))) (True ∧ (True ∧ (True ∧ (True ∧ (True ∧ (((0 : Int) ≤ z6) ∧ (True ∧ (z4 ∧ (z8 ∧ (True ∧ (True ∧ (True ∧ (∃ (y : Nat), (∃ (kp : z20), (((z1 - y) < (z1 - x)) ∧ ((y ≤ z1) ∧ (viewAll kp [z7, z3, z5, z15] [(Option.some (Blk.mk (41 : Nat) (List.set z14 z21 (D.v (Value.int IntKind.u32 (IntKind.wrap IntKind.u32 (Int.fdiv z18 z16))))) Bool.true))] [z7, z3, z13, (Prod.mk (6 : Nat) (D.v (Value.int IntKind.i64 ((y : Nat) : Int))))] (d_blk (shrT xs n y))))))))))))))))))))))))))))))) (∃ (r : Unit), (∃ (kp : z20), (True ∧ ((z19 = z19) ∧ (viewAll kp [z5] [(Option.some (Blk.mk (41 : Nat) z14 Bool.true))] (Prod.fst (Prod.snd ((fun (x_1 : Unit) => z9) r))) (Prod.snd (Prod.snd ((fun (x_1 : Unit) => z9) r)))))))))))))) (by kernel_rfl) ?_
  obtain ⟨⟨hb, hx⟩, hn⟩ := hpre
  simp only [true_and, and_true, and_self, IsInt_lit, IsBool_lit, IsStr_lit, Bool.not_eq_true', Bool.not_eq_false', Bool.not_true, Bool.not_false, Int.reduceLE, Int.reduceLT, Int.reduceNeg, Nat.le_refl, Int.le_refl, Nat.reduceLT, Nat.reduceLeDiff, Nat.reduceEqDiff, D.v.injEq, D.tup.injEq, D.agg.injEq, D.ro.injEq, List.cons.injEq, Value.int.injEq, Value.bool.injEq, pcond_true, pcond_false, NamelessL, Nameless, Nat.reduceMul, Nat.reduceAdd, Nat.zero_add, Int.toNat_natCast, unu_u32s]
  refine pcond_intro (fun h => ?_) (fun h => ⟨(), [some 0], ?_⟩)
  · simp only [decide_eq_true_eq] at h
    have h : x < xs.length := by omega
    have hs := shr_set hx hn h
    have hd := hx.get x
    have hd1 := hx.get (x + 1)
    obtain ⟨hp0, hp⟩ := pow32 hn
    have w0 : IntKind.u64.wrap (n : Int) = (n : Int) := wrap_u64_of (by omega) (by omega)
    have w4 : IntKind.i64.wrap ((x : Int) + 1) = ((x + 1 : Nat) : Int) := by rw [wrap_i64_of (by omega) (by omega)]; omega
    have hlen := shrT_length (xs := xs) (n := n) (show x ≤ xs.length by omega)
    have hfd : ∀ a : Nat, IntKind.u32.wrap ((a : Int).fdiv (2 ^ n)) = ((a / 2 ^ n % 4294967296 : Nat) : Int) := fun a => by
      rw [Int.fdiv_eq_ediv_of_nonneg _ (Int.le_of_lt (Int.pow_pos (by decide))), wrap_u32]
      have : (a : Int) / 2 ^ n = ((a / 2 ^ n : Nat) : Int) := by rw [Int.natCast_ediv]; simp
      rw [this]; omega
    have hpair := shr_pair (b := xs.getD (x + 1) 0) hn hd hd1
    simp only [w0, w4, Nat.mul_one, Int.toNat_natCast, u32s_cell, u32s_length, hlen, show min n 64 = n by omega, u32s_isInt xs x h, and_true]
    refine ⟨⟨by omega, by omega⟩, h, pcond_intro (fun h2 => ?_) (fun h2 => ?_)⟩
    · simp only [decide_eq_true_eq] at h2
      rw [or_shiftS hd1 hd, hfd, hpair, u32s_put, hs]
      refine ⟨⟨by omega, by omega⟩, ⟨by omega, by rw [u32s_isInt xs (x + 1) (by omega)]; trivial⟩, by omega, ⟨by omega, by omega⟩, by omega, x + 1, [some 0], by omega, by omega, ?_⟩
      refine of_eq (B := letI z4 := (u32s (shrT xs n (x + (1 : Nat)))); letI z0 := (Option.some (Blk.mk (41 : Nat) z4 Bool.true)); letI z1 := (D.sl (0 : Nat) (0 : Nat) (List.length xs) (Cap.toEnd (1 : Nat))); letI z2 := (D.v (Value.int IntKind.i64 (((x + (1 : Nat)) : Nat) : Int))); letI z3 := (D.v (Value.int IntKind.i64 ((n : Nat) : Int))); letI z5 := (D.ro (List.length xs) (u32s xs)); letI z6 := ([] : List (Option Blk)); ((Bool.true = Bool.true) ∧ ((((z0 = z0) ∧ (NamelessL z4)) ∧ (z6 = z6)) ∧ ((True ∧ (z5 = z5)) ∧ ((True ∧ (z3 = z3)) ∧ ((True ∧ (z1 = z1)) ∧ ((True ∧ (z2 = z2)) ∧ True))))))) (by kernel_rfl) ?_
      simp [u32s_nameless]
    · simp only [decide_eq_false_iff_not] at h2
      have hz : xs.getD (x + 1) 0 = 0 := by
        rw [List.getD_eq_getElem?_getD, List.getElem?_eq_none (by omega)]; rfl
      rw [hz] at hpair hs
      rw [Nat.mul_zero, Nat.add_zero] at hpair
      rw [wrap_u64_of (n := ((xs.getD x 0 : Nat) : Int)) (by omega) (by omega), hfd, hpair, u32s_put, hs]
      refine ⟨by omega, ⟨by omega, by omega⟩, by omega, x + 1, [some 0], by omega, by omega, ?_⟩
      refine of_eq (B := letI z4 := (u32s (shrT xs n (x + (1 : Nat)))); letI z0 := (Option.some (Blk.mk (41 : Nat) z4 Bool.true)); letI z1 := (D.sl (0 : Nat) (0 : Nat) (List.length xs) (Cap.toEnd (1 : Nat))); letI z2 := (D.v (Value.int IntKind.i64 (((x + (1 : Nat)) : Nat) : Int))); letI z3 := (D.v (Value.int IntKind.i64 ((n : Nat) : Int))); letI z5 := (D.ro (List.length xs) (u32s xs)); letI z6 := ([] : List (Option Blk)); ((Bool.true = Bool.true) ∧ ((((z0 = z0) ∧ (NamelessL z4)) ∧ (z6 = z6)) ∧ ((True ∧ (z5 = z5)) ∧ ((True ∧ (z3 = z3)) ∧ ((True ∧ (z1 = z1)) ∧ ((True ∧ (z2 = z2)) ∧ True))))))) (by kernel_rfl) ?_
      simp [u32s_nameless]
  · simp only [decide_eq_false_iff_not] at h
    have h : x = xs.length := by omega
    subst h
    refine of_eq (B := letI z2 := (u32s (shrT xs n (List.length xs))); letI z0 := (Option.some (Blk.mk (41 : Nat) z2 Bool.true)); letI z1 := (D.sl (0 : Nat) (0 : Nat) (List.length xs) (Cap.toEnd (1 : Nat))); letI z3 := ([] : List (Option Blk)); ((Bool.true = Bool.true) ∧ ((((z0 = z0) ∧ (NamelessL z2)) ∧ (z3 = z3)) ∧ ((True ∧ (z1 = z1)) ∧ True)))) (by kernel_rfl) ?_
    simp [u32s_nameless]
theorem gback_pure (xs : List Nat) (n : Int) (hpre : (xs.length ≤ 1000000 ∧ Dig xs) ∧ 0 ≤ n ∧ n < 32) : PureJ Try.prog 64 [.ro xs.length (u32s xs), .v (.int .i64 n)] (.ro (dg (nv xs / 2 ^ n.toNat)).length (u32s (dg (nv xs / 2 ^ n.toNat)))) := by
  refine pureJ_of_vcp (call := (addPure 56 ent_trim noCalls)) (lp := fun k => bif Nat.beq k 3 then some (lp_backLoop xs n.toNat) else none) (N := 10) T_ok mixed (addPure_ok ent_trim_ok noCalls_ok) Try.func64 rfl (by decide) (by kernel_rfl) (by kernel_rfl) (of_eq (B := LRuleP Try.prog Try.f64.ntmps (loopAt ((Try.f64.body).getD .skip) 3) (lp_backLoop xs n.toNat) ∧ True) (by kernel_rfl) ⟨backLoop_rule xs n.toNat (hshr hpre), trivial⟩) (by first | trivial | (simp only [NamelessL, Nameless, and_self, and_true, true_and]; done) | (simp [NamelessL, Nameless, u32s_nameless, namelessL_ints]; done)) (by first | trivial | (simp only [NamelessL, Nameless, and_self, and_true, true_and]; done) | (simp [NamelessL, Nameless, u32s_nameless, namelessL_ints]; done)) ?_
  refine of_eq (B := letI z1 := List.length xs; letI z4 := (u32s (shrT xs (Int.toNat n) z1)); letI z0 := (List.take (z1 * (1 : Nat)) (List.drop (0 : Nat) z4)); letI z2 := ((z1 : Nat) : Int); letI z3 := (List.replicate (Int.toNat z2) (D.v (Value.int IntKind.u32 (0 : Int)))); letI z5 := (dg ((nv xs) / ((2 : Nat) ^ (Int.toNat n)))); letI z6 := (D.v (Value.int IntKind.i64 (0 : Int))); letI z7 := ([] : List (Option Blk)); letI z8 := (List.length (unu z0)); letI z9 := (Cap.toEnd (1 : Nat)); letI z10 := (D.ro z1 (u32s xs)); (True ∧ (True ∧ (True ∧ ((((0 : Int) ≤ z2) ∧ ((z2 ≤ z2) ∧ ((((4 : Int) * z2) ≤ (281474976710656 : Int)) ∧ (z2 ≤ (9223372036854775807 : Int))))) ∧ (True ∧ (True ∧ (((0 : Nat) ≤ z1) ∧ (((Bool.true = Bool.true) ∧ (((((Option.some (Blk.mk (41 : Nat) (u32s (shrT xs (Int.toNat n) (0 : Nat))) Bool.true)) = (Option.some (Blk.mk (41 : Nat) z3 Bool.true))) ∧ (NamelessL z3)) ∧ (z7 = z7)) ∧ ((True ∧ (z10 = z10)) ∧ ((True ∧ ((D.v (Value.int IntKind.i64 n)) = (D.v (Value.int IntKind.i64 (((Int.toNat n) : Nat) : Int))))) ∧ ((True ∧ ((D.sl (0 : Nat) (0 : Nat) (Int.toNat z2) z9) = (D.sl (0 : Nat) (0 : Nat) z1 z9))) ∧ ((True ∧ (z6 = z6)) ∧ True)))))) ∧ (Unit → (True → (True ∧ (((((NamelessL z4) ∧ (((0 : Nat) < (1 : Nat)) ∧ (((0 : Nat) + (z1 * (1 : Nat))) ≤ (List.length z4)))) ∧ True) ∧ (((z0 = (u32s (unu z0))) ∧ (z1 = z8)) ∧ (z8 ≤ (1000000 : Nat)))) ∧ (True ∧ (True ∧ (True ∧ ((D.ro (List.length (trimL (unu z0))) (u32s (trimL (unu z0)))) = (D.ro (List.length z5) (u32s z5))))))))))))))))))) (by kernel_rfl) ?_
  obtain ⟨⟨hb, hx⟩, hn0, hn⟩ := hpre
  obtain ⟨n, rfl⟩ := Int.eq_ofNat_of_zero_le hn0
  have e0 : List.replicate xs.length (D.v (Value.int IntKind.u32 0)) = u32s (List.replicate xs.length 0) := u32s_replicate _ 0
  have e1 : shrT xs n 0 = List.replicate xs.length 0 := by simp [shrT, dgn]
  have e2 : shrT xs n xs.length = dgn xs.length (nv xs / 2 ^ n) := by simp [shrT]
  have e3 : List.take xs.length (u32s (dgn xs.length (nv xs / 2 ^ n))) = u32s (dgn xs.length (nv xs / 2 ^ n)) := by rw [u32s_take, List.take_of_length_le (by rw [dgn_length]; exact Nat.le_refl _)]
  have ht : trimL (dgn xs.length (nv xs / 2 ^ n)) = dg (nv xs / 2 ^ n) := trimL_dgn (Nat.lt_of_le_of_lt (Nat.div_le_self _ _) (nv_lt hx))
  simp only [Int.ofNat_eq_natCast, true_and, and_true, and_self, IsInt_lit, IsBool_lit, IsStr_lit, Bool.not_eq_true', Bool.not_eq_false', Bool.not_true, Bool.not_false, Int.reduceLE, Int.reduceLT, Int.reduceNeg, Nat.le_refl, Int.le_refl, Nat.reduceLT, Nat.reduceLeDiff, Nat.reduceEqDiff, D.v.injEq, D.tup.injEq, D.agg.injEq, D.ro.injEq, List.cons.injEq, Value.int.injEq, Value.bool.injEq, pcond_true, pcond_false, NamelessL, Nameless, Nat.reduceMul, Nat.reduceAdd, Nat.zero_add, Int.toNat_natCast, e0, e1, e2, e3, Nat.mul_one, List.drop_zero, unu_u32s, ht, u32s_length, dgn_length]
  exact ⟨⟨by omega, by omega, by omega⟩, by omega, u32s_nameless _, fun _ _ => ⟨u32s_nameless _, by omega⟩⟩
def ent_gback : Ent := fun ds => match ds with
  | [.ro n_xs ys_xs, .v (.int .i64 n)] => some (.ro (dg (nv (unu ys_xs) / 2 ^ n.toNat)).length (u32s (dg (nv (unu ys_xs) / 2 ^ n.toNat))), (ys_xs = u32s (unu ys_xs) ∧ n_xs = (unu ys_xs).length) ∧ ((unu ys_xs).length ≤ 1000000 ∧ Dig (unu ys_xs)) ∧ 0 ≤ n ∧ n < 32)
  | _ => none
theorem ent_gback_ok : EntOk Try.prog 64 ent_gback := by
  intro ds d c h hc; unfold ent_gback at h; split at h
  · rename_i n_xs ys_xs n; obtain ⟨rfl, rfl⟩ := pair_inj h
    obtain ⟨⟨h1, h2⟩, hc⟩ := hc; subst h2; generalize (unu ys_xs) = xs at *; subst h1
    exact gback_pure xs _ hc
  · cases h
def gF (T v1 v0 u0 : Nat) : Nat → Nat
  | 0 => 0
  | n + 1 => if 4294967296 ≤ n + 1 ∨ u0 + 4294967296 * (T - (n + 1) * v1) < (n + 1) * v0 then (if 4294967296 ≤ T - n * v1 then n else gF T v1 v0 u0 n) else n + 1
theorem gF_spec {U V P T v1 v0 u0 Vl Ul : Nat} (hV : V = (v1 * 4294967296 + v0) * P + Vl) (hVl : Vl < P) (hU : U = (T * 4294967296 + u0) * P + Ul) (hUl : Ul < P) (hT : T < v1 * 4294967296 + 4294967296) (hu0 : u0 < 4294967296) (hv2 : v0 < 4294967296) (hv1 : 0 < v1) (hV0 : 0 < V) (hUV : U < 4294967296 * V) :
    ∀ m, U / V ≤ m → m * v1 ≤ T → T - m * v1 < 4294967296 → gF T v1 v0 u0 m < 4294967296 ∧ U / V ≤ gF T v1 v0 u0 m ∧ gF T v1 v0 u0 m ≤ U / V + 1
  | 0, h1, h2, h3 => by
    have : U / V = 0 := Nat.le_zero.1 h1
    simp [gF, this]
  | k + 1, h1, h2, h3 => by
    have hqB : U / V < 4294967296 := by rw [Nat.div_lt_iff_lt_mul hV0]; exact hUV
    have hkv : (k + 1) * v1 = k * v1 + v1 := by rw [Nat.add_mul, Nat.one_mul]
    unfold gF
    split
    · rename_i hc
      have hq : U / V ≤ k := by
        rcases hc with h | h
        · exact Nat.le_of_lt_succ (Nat.lt_of_lt_of_le hqB h)
        · refine Nat.le_of_lt_succ (guess_down hV hU hUl hV0 ?_)
          have e1 : (k + 1) * (v1 * 4294967296 + v0) = (k + 1) * v1 * 4294967296 + (k + 1) * v0 := by grind
          show T * 4294967296 + u0 < (k + 1) * (v1 * 4294967296 + v0)
          rw [e1]; omega
      split
      · rename_i h
        have hk : k < 4294967296 := by
          refine Nat.lt_of_not_le fun hge => ?_
          have : 4294967296 * v1 ≤ k * v1 := Nat.mul_le_mul_right _ hge
          omega
        refine ⟨hk, hq, guess_exit hV hVl hU hv1 hk ?_⟩
        have h1 : k * v0 ≤ 4294967296 * 4294967296 := Nat.mul_le_mul (by omega) (by omega)
        have h2 : k * (v1 * 4294967296 + v0) = k * v1 * 4294967296 + k * v0 := by grind
        rw [h2]; omega
      · rename_i h
        exact gF_spec hV hVl hU hUl hT hu0 hv2 hv1 hV0 hUV k hq (by omega) (by omega)
    · rename_i hc
      have hc1 : ¬ 4294967296 ≤ k + 1 := fun h => hc (.inl h)
      have hc2 : ¬ u0 + 4294967296 * (T - (k + 1) * v1) < (k + 1) * v0 := fun h => hc (.inr h)
      refine ⟨by omega, h1, guess_exit hV hVl hU hv1 (by omega) ?_⟩
      have e1 : (k + 1) * (v1 * 4294967296 + v0) = (k + 1) * v1 * 4294967296 + (k + 1) * v0 := by grind
      rw [e1]; omega
def gHyp (u2 u1 u0 v1 v0 : Nat) : Prop := ((u2 < 4294967296 ∧ u1 < 4294967296) ∧ u0 < 4294967296) ∧ (0 < v1 ∧ v1 < 4294967296 ∧ v0 < 4294967296) ∧ u2 * 4294967296 + u1 < v1 * 4294967296 + 4294967296
def lp_guessLoop (u2 u1 u0 v1 v0 : Nat) : LoopO := loopRule (α := Int) (β := Unit) [] (fun q => ∃ m : Nat, q = (m : Int) ∧ gF (u2 * 4294967296 + u1) v1 v0 u0 m = gF (u2 * 4294967296 + u1) v1 v0 u0 ((u2 * 4294967296 + u1) / v1) ∧ m * v1 ≤ u2 * 4294967296 + u1 ∧ u2 * 4294967296 + u1 - m * v1 < 4294967296) (fun q => [(2, .v (.int .u64 (u0 : Int))), (3, .v (.int .u64 (v1 : Int))), (4, .v (.int .u64 (v0 : Int))), (11, .v (.int .u64 q)), (12, .v (.int .u64 (((u2 * 4294967296 + u1 : Nat) : Int) - q * (v1 : Int))))]) (fun _ => []) ((((u2 * 4294967296 + u1) / v1 : Nat) : Int)) (fun _ => True) (fun _ => (.exit 0, [(11, .v (.int .u64 (gF (u2 * 4294967296 + u1) v1 v0 u0 ((u2 * 4294967296 + u1) / v1) : Nat)))], []))
theorem guessLoop_rule (u2 u1 u0 v1 v0 : Nat) (hpre : gHyp u2 u1 u0 v1 v0) : LRuleP Try.prog Try.f100.ntmps (loopAt ((Try.f100.body).getD .skip) 3) (lp_guessLoop u2 u1 u0 v1 v0) := by
  refine lrule_of (α := Int) (β := Unit) (call := noCalls) (lp := fun _ => none) (N := 10) T_ok mixed noCalls_ok (fun q => q.toNat) (by kernel_rfl) (LpAllP.none _) ?_
  intro x hJ
  refine of_eq (B := letI z8 := (Exit.exit (0 : Nat)); letI z15 := (4294967296 : Nat); letI z1 := ((u2 * z15) + u1); letI z12 := (gF z1 v1 v0 u0 (z1 / v1)); letI z7 := ([] : List (Option Blk)); letI z0 := (Prod.mk z8 (Prod.mk [(Prod.mk (11 : Nat) (D.v (Value.int IntKind.u64 ((z12 : Nat) : Int))))] z7)); letI z14 := ((z1 : Nat) : Int); letI z9 := ((v1 : Nat) : Int); letI z2 := (IntKind.wrap IntKind.u64 ((z14 - (x * z9)) + z9)); letI z3 := (Prod.mk (11 : Nat) (D.v (Value.int IntKind.u64 (IntKind.wrap IntKind.u64 (x - (1 : Int)))))); letI z4 := (Prod.mk (2 : Nat) (D.v (Value.int IntKind.u64 ((u0 : Nat) : Int)))); letI z5 := (Prod.mk (3 : Nat) (D.v (Value.int IntKind.u64 z9))); letI z6 := (Prod.mk (4 : Nat) (D.v (Value.int IntKind.u64 ((v0 : Nat) : Int)))); letI z10 := (List (Option Nat)); letI z11 := (Prod.mk (12 : Nat) (D.v (Value.int IntKind.u64 z2))); letI z13 := (4294967296 : Int); letI z16 := (Decidable.decide (z13 ≤ z2)); (True ∧ (True ∧ (True ∧ (pcond (Decidable.decide (z13 ≤ x)) (True ∧ (True ∧ (True ∧ (True ∧ (True ∧ (True ∧ (True ∧ (True ∧ (True ∧ (True ∧ (pcond z16 (∃ (r : Unit), (∃ (kp : z10), (True ∧ ((z8 = z8) ∧ (viewAll kp [z3] z7 (Prod.fst (Prod.snd ((fun (x_1 : Unit) => z0) r))) (Prod.snd (Prod.snd ((fun (x_1 : Unit) => z0) r)))))))) (∃ (y : Int), (∃ (kp : z10), (((Int.toNat y) < (Int.toNat x)) ∧ ((∃ (m : Nat), ((y = ((m : Nat) : Int)) ∧ (((gF z1 v1 v0 u0 m) = z12) ∧ (((m * v1) ≤ z1) ∧ ((z1 - (m * v1)) < z15))))) ∧ (viewAll kp [z4, z5, z6, z3, z11] z7 [z4, z5, z6, (Prod.mk (11 : Nat) (D.v (Value.int IntKind.u64 y))), (Prod.mk (12 : Nat) (D.v (Value.int IntKind.u64 (z14 - (y * z9)))))] z7)))))))))))))))) (True ∧ (True ∧ (True ∧ (True ∧ (((0 : Int) ≤ (32 : Int)) ∧ (True ∧ (True ∧ (True ∧ (True ∧ (pcond (Decidable.decide ((bits BinOp.or IntKind.u64 (IntKind.wrap IntKind.u64 ((z14 - (x * z9)) * z13)) ((u0 : Nat) : Int)) < (IntKind.wrap IntKind.u64 (x * ((v0 : Nat) : Int))))) (True ∧ (True ∧ (True ∧ (True ∧ (True ∧ (True ∧ (True ∧ (True ∧ (True ∧ (pcond z16 (∃ (r : Unit), (∃ (kp : z10), (True ∧ ((z8 = z8) ∧ (viewAll kp [z3] z7 (Prod.fst (Prod.snd ((fun (x_1 : Unit) => z0) r))) (Prod.snd (Prod.snd ((fun (x_1 : Unit) => z0) r)))))))) (∃ (y : Int), (∃ (kp : z10), (((Int.toNat y) < (Int.toNat x)) ∧ ((∃ (m : Nat), ((y = ((m : Nat) : Int)) ∧ (((gF z1 v1 v0 u0 m) = z12) ∧ (((m * v1) ≤ z1) ∧ ((z1 - (m * v1)) < z15))))) ∧ (viewAll kp [z4, z5, z6, z3, z11] z7 [z4, z5, z6, (Prod.mk (11 : Nat) (D.v (Value.int IntKind.u64 y))), (Prod.mk (12 : Nat) (D.v (Value.int IntKind.u64 (z14 - (y * z9)))))] z7))))))))))))))) (∃ (r : Unit), (∃ (kp : z10), (True ∧ ((z8 = z8) ∧ (viewAll kp [(Prod.mk (11 : Nat) (D.v (Value.int IntKind.u64 x)))] z7 (Prod.fst (Prod.snd ((fun (x_1 : Unit) => z0) r))) (Prod.snd (Prod.snd ((fun (x_1 : Unit) => z0) r))))))))))))))))))))))) (by kernel_rfl) ?_
  obtain ⟨m, rfl, hg, hmT, hmr⟩ := hJ
  obtain ⟨⟨⟨h2, h1⟩, h0⟩, ⟨hv1, hv1b, hv0⟩, hT⟩ := hpre
  simp only [true_and, and_true, and_self, IsInt_lit, IsBool_lit, IsStr_lit, Bool.not_eq_true', Bool.not_eq_false', Bool.not_true, Bool.not_false, Int.reduceLE, Int.reduceLT, Int.reduceNeg, Nat.le_refl, Int.le_refl, Nat.reduceLT, Nat.reduceLeDiff, Nat.reduceEqDiff, D.v.injEq, D.tup.injEq, D.agg.injEq, D.ro.injEq, List.cons.injEq, Value.int.injEq, Value.bool.injEq, pcond_true, pcond_false, NamelessL, Nameless, Nat.reduceMul, Nat.reduceAdd, Nat.zero_add, Int.toNat_natCast]
  rw [← hg]
  have hTB : u2 * 4294967296 + u1 < 18446744073709551616 := by omega
  obtain ⟨T, eT⟩ : ∃ T, u2 * 4294967296 + u1 = T := ⟨_, rfl⟩
  rw [eT] at hg hmT hmr hT hTB ⊢
  have hmle : m ≤ T := Nat.le_trans (Nat.le_mul_of_pos_right m hv1) hmT
  have er : ((T : Nat) : Int) - (m : Int) * (v1 : Int) = ((T - m * v1 : Nat) : Int) := by
    rw [Int.ofNat_sub hmT, Int.natCast_mul]
  have w2 : IntKind.u64.wrap (((T - m * v1 : Nat) : Int) + (v1 : Int)) = ((T - m * v1 + v1 : Nat) : Int) := by rw [wrap_u64_of (by omega) (by omega)]; omega
  have c1 : decide ((4294967296 : Int) ≤ (m : Int)) = decide (4294967296 ≤ m) := by rw [decide_eq_decide]; omega
  have c2 : ∀ k : Nat, decide ((4294967296 : Int) ≤ (k : Int)) = decide (4294967296 ≤ k) := fun k => by rw [decide_eq_decide]; omega
  have hor : Go.bits BinOp.or IntKind.u64 (IntKind.u64.wrap (((T - m * v1 : Nat) : Int) * 4294967296)) (u0 : Int) = ((u0 + 4294967296 * (T - m * v1) : Nat) : Int) := by
    have := or_shift (a := T - m * v1) (b := u0) hmr h0
    rwa [wrap_u64_of (n := (u0 : Int)) (by omega) (by omega)] at this
  simp only [er, w2, c2, hor]
  have down : ∀ k, m = k + 1 → (gF T v1 v0 u0 m = if 4294967296 ≤ T - k * v1 then k else gF T v1 v0 u0 k) →
      pcond (decide (4294967296 ≤ T - m * v1 + v1))
      (∃ (r : Unit) (kp : List (Option Nat)), viewAll kp [(11, D.v (Value.int IntKind.u64 (IntKind.u64.wrap ((m : Int) - 1))))] [] [(11, D.v (Value.int IntKind.u64 ((gF T v1 v0 u0 m : Nat) : Int)))] [])
      (∃ (y : Int) (kp : List (Option Nat)), y.toNat < m ∧ (∃ n : Nat, y = (n : Int) ∧ gF T v1 v0 u0 n = gF T v1 v0 u0 m ∧ n * v1 ≤ T ∧ T - n * v1 < 4294967296) ∧
        viewAll kp [(2, D.v (Value.int IntKind.u64 (u0 : Int))), (3, D.v (Value.int IntKind.u64 (v1 : Int))), (4, D.v (Value.int IntKind.u64 (v0 : Int))), (11, D.v (Value.int IntKind.u64 (IntKind.u64.wrap ((m : Int) - 1)))), (12, D.v (Value.int IntKind.u64 ((T - m * v1 + v1 : Nat) : Int)))] []
          [(2, D.v (Value.int IntKind.u64 (u0 : Int))), (3, D.v (Value.int IntKind.u64 (v1 : Int))), (4, D.v (Value.int IntKind.u64 (v0 : Int))), (11, D.v (Value.int IntKind.u64 y)), (12, D.v (Value.int IntKind.u64 (((T : Nat) : Int) - y * (v1 : Int))))] []) := by
    rintro k rfl hgk
    have hkv : (k + 1) * v1 = k * v1 + v1 := by rw [Nat.add_mul, Nat.one_mul]
    have eg : IntKind.u64.wrap (((k + 1 : Nat) : Int) - 1) = (k : Int) := by rw [wrap_u64_of (by omega) (by omega)]; omega
    have hT3 : T - (k + 1) * v1 + v1 = T - k * v1 := by omega
    rw [eg, hT3, hgk]
    refine pcond_intro (fun h => ?_) (fun h => ?_)
    · simp only [decide_eq_true_eq] at h
      rw [if_pos h]
      refine ⟨(), [], ?_⟩
      refine of_eq (B := letI z0 := (D.v (Value.int IntKind.u64 ((k : Nat) : Int))); letI z1 := ([] : List (Option Blk)); ((Bool.true = Bool.true) ∧ ((z1 = z1) ∧ ((True ∧ (z0 = z0)) ∧ True)))) (by kernel_rfl) ?_
      simp
    · simp only [decide_eq_false_iff_not] at h
      rw [if_neg h]
      refine ⟨(k : Int), [], by omega, ⟨k, rfl, rfl, by omega, by omega⟩, ?_⟩
      rw [← Int.natCast_mul, ← Int.ofNat_sub (show k * v1 ≤ T by omega)]
      refine of_eq (B := letI z0 := (D.v (Value.int IntKind.u64 (((T - (k * v1)) : Nat) : Int))); letI z1 := (D.v (Value.int IntKind.u64 ((u0 : Nat) : Int))); letI z2 := (D.v (Value.int IntKind.u64 ((v1 : Nat) : Int))); letI z3 := (D.v (Value.int IntKind.u64 ((v0 : Nat) : Int))); letI z4 := (D.v (Value.int IntKind.u64 ((k : Nat) : Int))); letI z5 := ([] : List (Option Blk)); ((Bool.true = Bool.true) ∧ ((z5 = z5) ∧ ((True ∧ (z1 = z1)) ∧ ((True ∧ (z2 = z2)) ∧ ((True ∧ (z3 = z3)) ∧ ((True ∧ (z4 = z4)) ∧ ((True ∧ (z0 = z0)) ∧ True)))))))) (by kernel_rfl) ?_
      simp
  refine pcond_intro (fun h => ?_) (fun h => pcond_intro (fun h3 => ?_) (fun h3 => ?_))
  · simp only [decide_eq_true_eq] at h
    obtain ⟨k, rfl⟩ : ∃ k, m = k + 1 := ⟨m - 1, by omega⟩
    exact down k rfl (by rw [gF, if_pos (.inl h)])
  · simp only [decide_eq_false_iff_not] at h
    have hmv : m * v0 ≤ 4294967295 * 4294967295 := Nat.mul_le_mul (by omega) (by omega)
    rw [← Int.natCast_mul, wrap_u64_of (n := ((m * v0 : Nat) : Int)) (by omega) (by omega), decide_eq_true_eq] at h3
    obtain ⟨k, rfl⟩ : ∃ k, m = k + 1 := ⟨m - 1, by
      rcases Nat.eq_zero_or_pos m with h5 | h5
      · subst h5; simp at h3; omega
      · omega⟩
    exact down k rfl (by rw [gF, if_pos (.inr (by omega))])
  · simp only [decide_eq_false_iff_not] at h
    have hmv : m * v0 ≤ 4294967295 * 4294967295 := Nat.mul_le_mul (by omega) (by omega)
    rw [← Int.natCast_mul, wrap_u64_of (n := ((m * v0 : Nat) : Int)) (by omega) (by omega), decide_eq_false_iff_not] at h3
    have hgm : gF T v1 v0 u0 m = m := by
      cases m with
      | zero => rfl
      | succ k => rw [gF, if_neg (by rintro (h5 | h5) <;> omega)]
    rw [hgm]
    refine ⟨(), [], ?_⟩
    refine of_eq (B := letI z0 := (D.v (Value.int IntKind.u64 ((m : Nat) : Int))); letI z1 := ([] : List (Option Blk)); ((Bool.true = Bool.true) ∧ ((z1 = z1) ∧ ((True ∧ (z0 = z0)) ∧ True)))) (by kernel_rfl) ?_
    simp
theorem hguess {u2 u1 u0 v1 v0 : Int} (h : (((0 ≤ u2 ∧ u2 < 4294967296) ∧ (0 ≤ u1 ∧ u1 < 4294967296)) ∧ 0 ≤ u0 ∧ u0 < 4294967296) ∧ (0 < v1 ∧ v1 < 4294967296) ∧ (0 ≤ v0 ∧ v0 < 4294967296) ∧ u2 * 4294967296 + u1 < v1 * 4294967296 + 4294967296) : gHyp u2.toNat u1.toNat u0.toNat v1.toNat v0.toNat := by
  unfold gHyp; omega
theorem guess_pure (u2 u1 u0 v1 v0 : Int) (hpre : (((0 ≤ u2 ∧ u2 < 4294967296) ∧ (0 ≤ u1 ∧ u1 < 4294967296)) ∧ 0 ≤ u0 ∧ u0 < 4294967296) ∧ (0 < v1 ∧ v1 < 4294967296) ∧ (0 ≤ v0 ∧ v0 < 4294967296) ∧ u2 * 4294967296 + u1 < v1 * 4294967296 + 4294967296) : PureJ Try.prog 100 [.v (.int .u64 u2), .v (.int .u64 u1), .v (.int .u64 u0), .v (.int .u64 v1), .v (.int .u64 v0)] (.v (.int .u64 (gF (u2.toNat * 4294967296 + u1.toNat) v1.toNat v0.toNat u0.toNat ((u2.toNat * 4294967296 + u1.toNat) / v1.toNat) : Nat))) := by
  refine pureJ_of_vcp (call := noCalls) (lp := fun k => bif Nat.beq k 3 then some (lp_guessLoop u2.toNat u1.toNat u0.toNat v1.toNat v0.toNat) else none) (N := 10) T_ok mixed noCalls_ok Try.func100 rfl (by decide) (by kernel_rfl) (by kernel_rfl) (of_eq (B := LRuleP Try.prog Try.f100.ntmps (loopAt ((Try.f100.body).getD .skip) 3) (lp_guessLoop u2.toNat u1.toNat u0.toNat v1.toNat v0.toNat) ∧ True) (by kernel_rfl) ⟨guessLoop_rule u2.toNat u1.toNat u0.toNat v1.toNat v0.toNat (hguess hpre), trivial⟩) (by first | trivial | (simp only [NamelessL, Nameless, and_self, and_true, true_and]; done) | (simp [NamelessL, Nameless, u32s_nameless, namelessL_ints]; done)) (by first | trivial | (simp only [NamelessL, Nameless, and_self, and_true, true_and]; done) | (simp [NamelessL, Nameless, u32s_nameless, namelessL_ints]; done)) ?_
  refine of_eq (B := letI z0 := (((Int.toNat u2) * (4294967296 : Nat)) + (Int.toNat u1)); letI z1 := Int.toNat v1; letI z7 := Int.toNat v0; letI z8 := Int.toNat u0; letI z2 := (gF z0 z1 z7 z8 (z0 / z1)); letI z3 := (bits BinOp.or IntKind.u64 (IntKind.wrap IntKind.u64 (u2 * (4294967296 : Int))) u1); letI z4 := (D.v (Value.int IntKind.u64 ((z2 : Nat) : Int))); letI z5 := (((z0 / z1) : Nat) : Int); letI z6 := ((0 : Int) ≤ (32 : Int)); letI z9 := ([] : List (Option Blk)); (True ∧ (True ∧ (z6 ∧ (True ∧ (True ∧ (True ∧ ((v1 ≠ (0 : Int)) ∧ (True ∧ (True ∧ (z6 ∧ (True ∧ (True ∧ (True ∧ ((v1 ≠ (0 : Int)) ∧ (True ∧ ((∃ (m : Nat), ((z5 = ((m : Nat) : Int)) ∧ (((gF z0 z1 z7 z8 m) = z2) ∧ (((m * z1) ≤ z0) ∧ ((z0 - (m * z1)) < (4294967296 : Nat)))))) ∧ (((Bool.true = Bool.true) ∧ ((z9 = z9) ∧ ((True ∧ ((D.v (Value.int IntKind.u64 u0)) = (D.v (Value.int IntKind.u64 ((z8 : Nat) : Int))))) ∧ ((True ∧ ((D.v (Value.int IntKind.u64 v1)) = (D.v (Value.int IntKind.u64 ((z1 : Nat) : Int))))) ∧ ((True ∧ ((D.v (Value.int IntKind.u64 v0)) = (D.v (Value.int IntKind.u64 ((z7 : Nat) : Int))))) ∧ ((True ∧ ((D.v (Value.int IntKind.u64 (IntKind.wrap IntKind.u64 (Int.tdiv z3 v1)))) = (D.v (Value.int IntKind.u64 z5)))) ∧ ((True ∧ ((D.v (Value.int IntKind.u64 (Int.tmod z3 v1))) = (D.v (Value.int IntKind.u64 (((z0 : Nat) : Int) - (z5 * ((z1 : Nat) : Int))))))) ∧ True))))))) ∧ (Unit → (True → (True ∧ (True ∧ (True ∧ (True ∧ (z4 = z4))))))))))))))))))))))))) (by kernel_rfl) ?_
  obtain ⟨⟨⟨⟨a0, a1⟩, b0, b1⟩, c0, c1⟩, ⟨d0, d1⟩, ⟨f0, f1⟩, hT⟩ := hpre
  obtain ⟨u2, rfl⟩ := Int.eq_ofNat_of_zero_le a0
  obtain ⟨u1, rfl⟩ := Int.eq_ofNat_of_zero_le b0
  obtain ⟨u0, rfl⟩ := Int.eq_ofNat_of_zero_le c0
  obtain ⟨v1, rfl⟩ := Int.eq_ofNat_of_zero_le (Int.le_of_lt d0)
  obtain ⟨v0, rfl⟩ := Int.eq_ofNat_of_zero_le f0
  simp only [true_and, and_true, and_self, IsInt_lit, IsBool_lit, IsStr_lit, Bool.not_eq_true', Bool.not_eq_false', Bool.not_true, Bool.not_false, Int.reduceLE, Int.reduceLT, Int.reduceNeg, Nat.le_refl, Int.le_refl, Nat.reduceLT, Nat.reduceLeDiff, Nat.reduceEqDiff, D.v.injEq, D.tup.injEq, D.agg.injEq, D.ro.injEq, List.cons.injEq, Value.int.injEq, Value.bool.injEq, pcond_true, pcond_false, NamelessL, Nameless, Nat.reduceMul, Nat.reduceAdd, Nat.zero_add, Int.toNat_natCast, Int.ofNat_eq_natCast] at *
  have hor : Go.bits BinOp.or IntKind.u64 (IntKind.u64.wrap ((u2 : Int) * 4294967296)) (u1 : Int) = ((u2 * 4294967296 + u1 : Nat) : Int) := by
    have := or_shift (a := u2) (b := u1) (by omega) (by omega)
    rw [wrap_u64_of (n := (u1 : Int)) (by omega) (by omega)] at this
    rw [this]; omega
  rw [hor]
  have hTB : u2 * 4294967296 + u1 < 18446744073709551616 := by omega
  obtain ⟨T, eT⟩ : ∃ T, u2 * 4294967296 + u1 = T := ⟨_, rfl⟩
  rw [eT] at hTB ⊢
  have hdm := Nat.div_add_mod T v1
  have hml := Nat.mod_lt T (show 0 < v1 by omega)
  have hle := Nat.div_le_self T v1
  have e1 : IntKind.u64.wrap ((T : Int).tdiv (v1 : Int)) = ((T / v1 : Nat) : Int) := by
    rw [Int.tdiv_eq_ediv_of_nonneg (by omega), ← Int.natCast_ediv, wrap_u64_of (Int.natCast_nonneg _)]
    generalize T / v1 = q at *
    omega
  have e2 : (T : Int).tmod (v1 : Int) = (T : Int) - ((T / v1 : Nat) : Int) * (v1 : Int) := by
    rw [Int.tmod_eq_emod_of_nonneg (by omega), ← Int.natCast_emod, ← Int.natCast_mul, Nat.mul_comm (T / v1)]
    omega
  rw [e1, e2]
  have hle2 : T / v1 * v1 ≤ T := by rw [Nat.mul_comm]; omega
  have hle3 : T - T / v1 * v1 < 4294967296 := by rw [Nat.mul_comm]; omega
  exact ⟨by omega, by omega, ⟨T / v1, rfl, rfl, hle2, hle3⟩, ⟨rfl, rfl⟩, fun _ _ => trivial⟩
def ent_guess : Ent := fun ds => match ds with
  | [.v (.int .u64 u2), .v (.int .u64 u1), .v (.int .u64 u0), .v (.int .u64 v1), .v (.int .u64 v0)] => some (.v (.int .u64 (gF (u2.toNat * 4294967296 + u1.toNat) v1.toNat v0.toNat u0.toNat ((u2.toNat * 4294967296 + u1.toNat) / v1.toNat) : Nat)), (((0 ≤ u2 ∧ u2 < 4294967296) ∧ (0 ≤ u1 ∧ u1 < 4294967296)) ∧ 0 ≤ u0 ∧ u0 < 4294967296) ∧ (0 < v1 ∧ v1 < 4294967296) ∧ (0 ≤ v0 ∧ v0 < 4294967296) ∧ u2 * 4294967296 + u1 < v1 * 4294967296 + 4294967296)
  | _ => none
theorem ent_guess_ok : EntOk Try.prog 100 ent_guess := by
  intro ds d c h hc; unfold ent_guess at h; split at h
  · obtain ⟨rfl, rfl⟩ := pair_inj h; exact guess_pure _ _ _ _ _ hc
  · cases h
def entq_guess : EntQ := fun ds K => match ds with
  | [.v (.int .u64 u2), .v (.int .u64 u1), .v (.int .u64 u0), .v (.int .u64 v1), .v (.int .u64 v0)] => some (((((0 ≤ u2 ∧ u2 < 4294967296) ∧ (0 ≤ u1 ∧ u1 < 4294967296)) ∧ 0 ≤ u0 ∧ u0 < 4294967296) ∧ (0 < v1 ∧ v1 < 4294967296) ∧ (0 ≤ v0 ∧ v0 < 4294967296) ∧ u2 * 4294967296 + u1 < v1 * 4294967296 + 4294967296) ∧ (∀ g : Int, g = ((gF (u2.toNat * 4294967296 + u1.toNat) v1.toNat v0.toNat u0.toNat ((u2.toNat * 4294967296 + u1.toNat) / v1.toNat) : Nat) : Int) → K (.v (.int .u64 g))))
  | _ => none
theorem entq_guess_ok : EntQOk Try.prog 100 entq_guess := by
  intro ds K p h hp; unfold entq_guess at h; split at h
  · injection h with h; subst h; exact ⟨_, guess_pure _ _ _ _ _ hp.1, hp.2 _ rfl⟩
  · cases h
end Go.Proofs.Ythnhfkpihbjddaa
end
section
namespace Go.VD
set_option linter.unusedVariables false
set_option linter.unusedSimpArgs false
theorem fin_keep {ds : List D} {blk blk' : Blk} {d1 d : D} {H1 : Heap} (h0 : H1.head? = some (some blk')) (hn : (namesD d1).contains 0 = false) (hs : SealTo H1 d1 d) (hc' : NamelessL blk'.cs) : Fin ds [some blk] d1 H1 d [some blk'] := by
  intro ρ0 S0 w0 ρ S w u hS0 hle hS hr
  unfold SealTo at hs
  split at hs
  · rename_i e c hse
    obtain ⟨hc, rfl⟩ := hs
    have h00 : H1[0]? = some (some blk') := by
      cases H1 with
      | nil => simp at h0
      | cons x r => simpa using h0
    let S' : Nat → Prop := fun k => S k ∨ ∃ b bl, b ≠ 0 ∧ H1[b]? = some (some bl) ∧ 0 < (ρ b).2 ∧ (ρ b).1 = k
    have live0 : ∀ k, Live ρ [some blk'] k → 0 < (ρ 0).2 ∧ (ρ 0).1 = k := by
      rintro k ⟨b, bl, hb, hz, e⟩
      cases b with
      | zero => exact ⟨hz, e⟩
      | succ b => simp at hb
    have up : ∀ k, Live ρ [some blk'] k → Live ρ H1 k := fun k hk => ⟨0, blk', h00, (live0 k hk).1, (live0 k hk).2⟩
    refine ⟨ρ, S', ⟨fun k hk => ?_, fun b bl hb hz => ?_, fun b bl hb hz => ?_, fun i j bi bj hi hj _ _ _ => ?_, hS.glob.mono (fun _ h => .inl h) fun _ _ => rfl⟩, ?_, ?_⟩
    · rcases hk with h | ⟨b, bl, hb0, hb, hz, e⟩
      · exact ⟨(hS.sub k h).1, fun hl => (hS.sub k h).2 (up k hl)⟩
      · refine ⟨by rw [← e]; exact hS.lt ⟨b, bl, hb, hz, rfl⟩, fun hl => ?_⟩
        obtain ⟨z, e0⟩ := live0 k hl
        exact hb0 (hS.inj b 0 bl blk' hb h00 hz z (e.trans e0.symm))
    · cases b with
      | zero => simp at hb; subst hb; exact hS.none 0 _ h00 hz
      | succ b => simp at hb
    · cases b with
      | zero =>
        simp at hb; subst hb
        obtain ⟨cur, hcur⟩ := hS.blk 0 _ h00 hz
        exact ⟨cur, hcur.heap, hcur.size, RdL.nameless (E := ctx ρ S w H1) (E' := ctx ρ S' w [some blk']) (fun _ h => .inl h) (fun _ _ => rfl) _ _ hc' hcur.pre, hcur.full⟩
      | succ b => simp at hb
    · cases i with
      | zero => cases j with
        | zero => rfl
        | succ j => simp at hj
      | succ i => simp at hi
    · refine ⟨by simp, hle.ρ, fun k h => .inl (hle.S k h), hle.keep, fun k hk => ?_, fun k hk => ⟨(hle.fix k hk).1, fun hl => (hle.fix k hk).2 (up k hl)⟩, hle.heap, hle.size, hle.os, hle.tape, hle.output⟩
      rcases hk with h | ⟨b, bl, hb0, hb, hz, e⟩
      · exact hle.new k h
      · by_cases hl : Live ρ0 [some blk] k
        · exact .inr (.inl hl)
        · rcases Nat.lt_or_ge k w0.heap.size with h2 | h2
          · exact absurd ⟨b, bl, hb, hz, e⟩ (hle.fix k ⟨h2, hl⟩).2
          · exact .inr (.inr h2)
    · refine sealD_rdN (N := fun b => b ≠ 0) (S' := S') (H' := [some blk']) hS (fun k h => .inl h) (fun b bl hb hbl hz => .inr ⟨b, bl, hb, hbl, hz, rfl⟩) d1 e c u (fun b hb e0 => ?_) hse hc hr
      subst e0
      have : (namesD d1).contains 0 = true := by simpa using hb
      rw [this] at hn; cases hn
  · exact hs.elim
theorem mutJ_of_vcxK {P : Program} {T : Tbl} (hT : TblOk P T) {N : Nat} {call : CallO} {lp : Nat → Option LoopO} (hm : P.follows .mixedOrders = true) (hc : CallOK P call) {f : FuncId} {fn : Func} {c : Code} {off n : Nat} {cp : Cap} {plain : List D} {blk blk' : Blk} {d : D} (hf : P.funcs[f]? = some fn) (hb : fn.body = some c)
    (hname : (fn.name == "runtime.NumGoroutine") = false) (hok : codeOk fn.ntmps c = true) (hlen : decide ((.sl 0 off n cp :: plain).length ≤ fn.ntmps) = true) (hl : LpAll P fn.ntmps lp (loopsOf c)) (h1 : NamelessL plain) (h2 : Nameless d) (h3 : NamelessL blk.cs) (h4 : NamelessL blk'.cs)
    (h : vcx P call lp T N c (retQ T fn.results.toList fun d1 H1 => (H1.head? = some (some blk') ∧ (namesD d1).contains 0 = false) ∧ SealTo H1 d1 d) (envOf 0 (.sl 0 off n cp :: plain)) [some blk]) : MutJ P f off n cp plain blk d blk' := by
  refine ⟨callJ_of_dw hT hf hb hname (by simpa using hlen) ((vcx_sound hT hm hc c _ _ _ hok hl h).mono fun e env H h => ?_), h1, h2, h3, h4⟩
  cases e <;> simp only [retQ] at h ⊢
  all_goals first
    | exact h.elim
    | (split at h
       · obtain ⟨g1, ⟨g2, g3⟩, g4⟩ := h
         exact ⟨g1, fin_keep g2 g3 g4 h4⟩
       · exact h.elim)
end Go.VD
end
