import Derived.Test.YthnhfkpihbjddaaZKq17
import Derived.Test.YthnhfkpihbjddaaZKq12
import Derived.Test.YthnhfkpihbjddaaZKq8
import Derived.Test.YthnhfkpihbjddaaZKq15
section
namespace Go.Proofs.Ythnhfkpihbjddaa
open Go.VD
set_option linter.unusedVariables false
set_option linter.unusedSimpArgs false
set_option maxRecDepth 100000
def dvS (ok z : Bool) (a b : Int) : (Bool × List Nat) × (Bool × List Nat) × Int := bif ok then (bif z then ((false, []), (false, []), 21) else ((decide (a / b < 0), ofL (a / b)), (false, ofL (a % b)), 0)) else ((false, []), (false, []), 1)
def d_dv (p : (Bool × List Nat) × (Bool × List Nat) × Int) : D := .tup [d_int p.1.1 p.1.2, d_int p.2.1.1 p.2.1.2, .v (.int .i64 p.2.2)]
theorem ediv_at {xn yn : Bool} {X Y Q R : Nat} (hY : 0 < Y) (hR : R < Y) (h : (if xn then -(X : Int) else X) = (Q : Int) * (if xn then -1 else 1) * Y + R) :
    (if xn then -(X : Int) else X) / (if yn then -(Y : Int) else Y) = (if (xn != yn) then -(Q : Int) else Q) ∧ (if xn then -(X : Int) else X) % (if yn then -(Y : Int) else Y) = (R : Int) := by
  have key := (Int.ediv_emod_unique (a := if xn then -(X : Int) else X) (b := (Y : Int)) (r := (R : Int)) (q := (Q : Int) * (if xn then -1 else 1)) (by omega)).2 ⟨by rw [h, Int.mul_comm (Y : Int)]; omega, by omega, by omega⟩
  obtain ⟨k1, k2⟩ := key
  cases yn with
  | false =>
    simp only [Bool.false_eq_true, if_false, k1, k2, and_true]
    cases xn <;> simp
  | true =>
    simp only [if_true, Int.ediv_neg, Int.emod_neg, k1, k2, and_true]
    cases xn <;> simp
theorem dv_len {X Y : Nat} (hY : 0 < Y) : (dg (X / Y)).length ≤ (dg X).length ∧ (X % Y ≠ 0 → (dg (X / Y + 1)).length ≤ (dg X).length) := by
  refine ⟨dg_len_mono (Nat.div_le_self _ _), fun h => dg_len_mono ?_⟩
  have h1 : 2 ≤ Y := by
    rcases Nat.lt_or_ge Y 2 with h2 | h2
    · have : Y = 1 := by omega
      subst this; simp [Nat.mod_one] at h
    · exact h2
  have h2 : X ≠ 0 := fun e => by subst e; simp at h
  have h3 := Nat.div_add_mod X Y
  have h4 : 2 * (X / Y) ≤ Y * (X / Y) := Nat.mul_le_mul_right _ h1
  omega
theorem dv_val {xn yn : Bool} {xs ys : List Nat} {Q R : Nat} (hY : 0 < nv ys) (hR : R < nv ys) (hQ : (dg Q).length ≤ 400) (hy : (dg R).length ≤ 400)
    (h : (if xn then -(nv xs : Int) else nv xs) = (Q : Int) * (if xn then -1 else 1) * nv ys + R) :
    (sigN (xn != yn) (dg Q) = decide (iv xn xs / iv yn ys < 0) ∧ sigL (dg Q) = ofL (iv xn xs / iv yn ys)) ∧ (sigN false (dg R) = false ∧ sigL (dg R) = ofL (iv xn xs % iv yn ys)) := by
  obtain ⟨e1, e2⟩ := ediv_at (yn := yn) hY hR h
  have m1 := madeN_dg (xn != yn) Q
  have m2 := madeN_dg false R
  have hv : iv xn xs / iv yn ys = (if (xn != yn) then -(Q : Int) else Q) := e1
  have hr : iv xn xs % iv yn ys = (R : Int) := e2
  obtain ⟨s1, s2, s3⟩ := sig_ok (neg := (xn != yn)) (xs := dg Q) (v := iv xn xs / iv yn ys) (by rw [m1.1, hv]; clear hr hv e1 e2 h; cases (xn != yn) <;> rw [Bool.eq_iff_iff] <;> simp <;> omega) (by rw [m1.2, hv]; unfold ofL; cases (xn != yn) <;> simp)
  obtain ⟨t1, t2, t3⟩ := sig_ok (neg := false) (xs := dg R) (v := iv xn xs % iv yn ys) (by rw [m2.1, hr]; simp) (by rw [m2.2, hr]; unfold ofL; simp)
  have l1 : (ofL (iv xn xs / iv yn ys)).length ≤ 400 := by
    rw [hv]; unfold ofL; cases (xn != yn) <;> simpa using hQ
  have l2 : (ofL (iv xn xs % iv yn ys)).length ≤ 400 := by
    rw [hr]; unfold ofL; simpa using hy
  rw [s1, s2, t1, t2]
  unfold okS
  simp only [l1, l2, decide_true, cond_true, true_and, and_true]
  rw [hr]; simp
theorem neg_aux (a b : Int) : -(a * b + ((0 : Nat) : Int)) = a * -1 * b + ((0 : Nat) : Int) := by
  simp only [Int.natCast_zero, Int.add_zero, Int.mul_neg, Int.mul_one, Int.neg_mul]
theorem neg_aux2 (a b : Int) : (a + ((1 : Nat) : Int)) * -1 * b = -(a * b) - b := by
  simp only [Int.natCast_one, Int.mul_neg, Int.mul_one, Int.neg_mul, Int.add_mul, Int.one_mul]; omega
theorem hDivide_pure (xn : Bool) (xs : List Nat) (yn : Bool) (ys : List Nat) (hpre : LenOk xs ∧ LenOk ys) : PureJ Try.prog 13 [.agg [.v (.bool xn), .ro xs.length (u32s xs)], .agg [.v (.bool yn), .ro ys.length (u32s ys)]] (d_dv (dvS (validL xn xs && validL yn ys) (decide (nv ys = 0)) (iv xn xs) (iv yn ys))) := by
  refine pureJ_of_vcpN (call := (addPure 33 ent_iValid (addPure 51 ent_idiv (addPure 52 ent_iadd (addPure 53 ent_isub (addPure 54 ent_isigned noCalls)))))) (lp := fun _ => none) (N := 10) T_ok mixed (addPure_ok ent_iValid_ok (addPure_ok ent_idiv_ok (addPure_ok ent_iadd_ok (addPure_ok ent_isub_ok (addPure_ok ent_isigned_ok noCalls_ok))))) Try.func13 rfl (by decide) (by kernel_rfl) (by kernel_rfl) (LpAllP.none _) (by (simp [NamelessL, Nameless, d_dv, d_int, u32s_nameless]; done)) (by (simp [NamelessL, Nameless, d_dv, d_int, u32s_nameless]; done)) ?_
  refine of_eq (B := letI z5 := (dvS ((validL xn xs) && (validL yn ys)) (Decidable.decide ((nv ys) = (0 : Nat))) (iv xn xs) (iv yn ys)); letI z35 := (Prod.snd (Prod.fst z5)); letI z26 := (Prod.fst (Prod.snd z5)); letI z0 := (D.tup [(D.agg [(D.v (Value.bool (Prod.fst (Prod.fst z5)))), (D.ro (List.length z35) (u32s z35))]), (D.agg [(D.v (Value.bool (Prod.fst z26))), (D.ro (List.length (Prod.snd z26)) (u32s (Prod.snd z26)))]), (D.v (Value.int IntKind.i64 (Prod.snd (Prod.snd z5))))]); letI z38 := ((0 : Nat) < (2 : Nat)); letI z16 := (z38 ∧ (IsBool (D.v (Value.bool xn)))); letI z24 := (z38 ∧ (IsBool (D.v (Value.bool yn)))); letI z15 := (unu (u32s xs)); letI z11 := (unu (u32s ys)); letI z32 := (dg ((nv z15) / (nv z11))); letI z3 := (u32s z32); letI z27 := (List.length (unu z3)); letI z18 := ((z3 = (u32s (unu z3))) ∧ ((List.length z32) = z27)); letI z28 := (1000000 : Nat); letI z8 := ((2 : Nat) ≤ (2 : Nat)); letI z4 := (((2 : Nat) = (2 : Nat)) ∧ z8); letI z2 := (dg ((nv z15) % (nv z11))); letI z14 := (unu (u32s z2)); letI z31 := List.length z14; letI z20 := (((u32s z2) = (u32s z14)) ∧ ((List.length z2) = z31)); letI z37 := Bool.true = Bool.true; letI z23 := (z8 ∧ (z8 ∧ True)); letI z33 := (True ∧ (True ∧ True)); letI z9 := (z33 ∧ (z33 ∧ (True ∧ True))); letI z29 := (D.v (Value.int IntKind.i64 (0 : Int))); letI z1 := (True ∧ (z16 ∧ (True ∧ (z24 ∧ (True ∧ (True ∧ ((z18 ∧ (z27 ≤ z28)) ∧ (True ∧ (True ∧ (True ∧ (z4 ∧ (True ∧ ((z20 ∧ (z31 ≤ z28)) ∧ (True ∧ (True ∧ (True ∧ (z4 ∧ (z8 ∧ (z8 ∧ (z4 ∧ (z4 ∧ (True ∧ (z37 ∧ (z23 ∧ (z9 ∧ ((D.tup [(D.agg [(D.v (Value.bool (sigN (!(xn == yn)) (unu z3)))), (D.ro (List.length (sigL (unu z3))) (u32s (sigL (unu z3))))]), (D.agg [(D.v (Value.bool (sigN Bool.false z14))), (D.ro (List.length (sigL z14)) (u32s (sigL z14)))]), z29]) = z0)))))))))))))))))))))))))); letI z12 := (D.agg [(D.v (Value.bool Bool.false)), (D.ro (0 : Nat) ([] : List D))]); letI z6 := (True ∧ (True ∧ (z4 ∧ (z4 ∧ (True ∧ (z23 ∧ (z9 ∧ ((D.tup [z12, z12, (D.v (Value.int IntKind.i64 (1 : Int)))]) = z0)))))))); letI z7 := (dg ((nv z11) - (nv z14))); letI z30 := (dg ((nv (unu z3)) + (1 : Nat))); letI z10 := (u32s z30); letI z25 := List.length z11; letI z13 := (((u32s ys) = (u32s z11)) ∧ ((List.length ys) = z25)); letI z17 := (D.v (Value.int IntKind.u32 (1 : Int))); letI z19 := (((u32s xs) = (u32s z15)) ∧ ((List.length xs) = (List.length z15))); letI z21 := ((1 : Nat) < (2 : Nat)); letI z22 := (unu (u32s z7)); letI z34 := (400000 : Nat); letI z36 := (List.length (unu z10)); letI z39 := (1000000000000 : Nat); (True ∧ (True ∧ (True ∧ (True ∧ (True ∧ (z8 ∧ ((z19 ∧ ((List.length z15) ≤ z39)) ∧ (True ∧ (True ∧ (pcond (!(validL xn z15)) (True ∧ z6) (z8 ∧ ((z13 ∧ (z25 ≤ z39)) ∧ (True ∧ (True ∧ (pcond (!(validL yn z11)) z6 (True ∧ (z21 ∧ (True ∧ (True ∧ (pcond ((((List.length ys) : Nat) : Int) == (0 : Int)) (True ∧ (True ∧ (z4 ∧ (z4 ∧ (True ∧ (z23 ∧ (z9 ∧ ((D.tup [z12, z12, (D.v (Value.int IntKind.i64 (21 : Int)))]) = z0)))))))) (True ∧ (z21 ∧ (True ∧ (z21 ∧ (((z19 ∧ z13) ∧ (dHyp z15 z11)) ∧ (True ∧ (True ∧ (True ∧ (True ∧ (True ∧ (True ∧ (z16 ∧ (True ∧ (pcond xn (True ∧ (True ∧ (True ∧ (True ∧ (pcond (Decidable.decide ((0 : Int) < (((List.length z2) : Nat) : Int))) (True ∧ ((((1 : Nat) ≤ (16777216 : Nat)) ∧ ((1 : Nat) ≤ (9223372036854775807 : Nat))) ∧ (((True ∧ (((NamelessL [z17]) ∧ (((0 : Nat) < (1 : Nat)) ∧ ((1 : Nat) ≤ (1 : Nat)))) ∧ True)) ∧ ((([z17] = (u32s (unu [z17]))) ∧ ((1 : Nat) = (1 : Nat))) ∧ (z18 ∧ ((z27 ≤ z34) ∧ (((1 : Nat) ≤ z34) ∧ ((Dig (unu z3)) ∧ (Dig (unu [z17])))))))) ∧ (True ∧ (True ∧ (z21 ∧ (True ∧ ((z20 ∧ (z13 ∧ (((z25 ≤ z34) ∧ ((z31 ≤ z25) ∧ ((Dig z11) ∧ (Dig z14)))) ∧ ((nv z14) ≤ (nv z11))))) ∧ (True ∧ (True ∧ (z16 ∧ (True ∧ (z24 ∧ (True ∧ (True ∧ ((((z10 = (u32s (unu z10))) ∧ ((List.length z30) = z36)) ∧ (z36 ≤ z28)) ∧ (True ∧ (True ∧ (True ∧ (z4 ∧ (True ∧ (((((u32s z7) = (u32s z22)) ∧ ((List.length z7) = (List.length z22))) ∧ ((List.length z22) ≤ z28)) ∧ (True ∧ (True ∧ (True ∧ (z4 ∧ (z8 ∧ (z8 ∧ (z4 ∧ (z4 ∧ (True ∧ (z37 ∧ (z23 ∧ (z9 ∧ ((D.tup [(D.agg [(D.v (Value.bool (sigN (!(xn == yn)) (unu z10)))), (D.ro (List.length (sigL (unu z10))) (u32s (sigL (unu z10))))]), (D.agg [(D.v (Value.bool (sigN Bool.false z22))), (D.ro (List.length (sigL z22)) (u32s (sigL z22)))]), z29]) = z0))))))))))))))))))))))))))))))))))) z1))))) (True ∧ z1)))))))))))))))))))))))))))))))))))) (by kernel_rfl) ?_
  simp only [true_and, and_true, and_self, IsInt_lit, IsBool_lit, IsStr_lit, Bool.not_eq_true', Bool.not_eq_false', Bool.not_true, Bool.not_false, Int.reduceLE, Int.reduceLT, Int.reduceNeg, Nat.le_refl, Int.le_refl, Nat.reduceLT, Nat.reduceLeDiff, Nat.reduceEqDiff, D.v.injEq, D.tup.injEq, D.agg.injEq, D.ro.injEq, List.cons.injEq, Value.int.injEq, Value.bool.injEq, pcond_true, pcond_false, NamelessL, Nameless, Nat.reduceMul, Nat.reduceAdd, Nat.zero_add, Int.toNat_natCast, unu_u32s]
  obtain ⟨⟨lx, dx⟩, ly, dy⟩ := hpre
  have hone : unu [D.v (Value.int IntKind.u32 1)] = [1] := unu_u32s [1]
  refine ⟨by omega, pcond_intro (fun h => ?_) (fun h => ⟨by omega, pcond_intro (fun h2 => ?_) (fun h2 => pcond_intro (fun h3 => ?_) (fun h3 => ?_))⟩)⟩
  · simp only [Bool.not_eq_true'] at h; simp [dvS, h, u32s]
  · simp only [Bool.not_eq_true', Bool.not_eq_false'] at h h2; simp [dvS, h, h2, u32s]
  · simp only [Bool.not_eq_false', beq_iff_eq] at h h2 h3
    have : ys = [] := List.eq_nil_of_length_eq_zero (by omega)
    subst this
    simp [dvS, h, h2, u32s, nv]
  · simp only [Bool.not_eq_false', beq_eq_false_iff_ne, ne_eq] at h h2 h3
    obtain ⟨gx, lx4⟩ := valid_good dx h
    obtain ⟨gy, ly4⟩ := valid_good dy h2
    have hY : 0 < nv ys := by
      rcases Nat.eq_zero_or_pos (nv ys) with h0 | h0
      · have e := gy.1
        rw [h0, dg_zero] at e
        rw [e] at h3; simp at h3
      · exact h0
    have hY0 : decide (nv ys = 0) = false := by simp; omega
    have hm := Nat.mod_lt (nv xs) hY
    have hdm := Nat.div_add_mod (nv xs) (nv ys)
    obtain ⟨l1, l2⟩ := dv_len (X := nv xs) hY
    have lrem : (dg (nv xs % nv ys)).length ≤ ys.length := by
      have := dg_len_mono (Nat.le_of_lt hm)
      rwa [← gy.1] at this
    rw [← gx.1] at l1 l2
    have hdv : ∀ Q R : Nat, R < nv ys → (dg Q).length ≤ 400 → (dg R).length ≤ 400 → (if xn then -(nv xs : Int) else nv xs) = (Q : Int) * (if xn then -1 else 1) * nv ys + R →
        (sigN (xn != yn) (dg Q) = (dvS true false (iv xn xs) (iv yn ys)).1.1 ∧ sigL (dg Q) = (dvS true false (iv xn xs) (iv yn ys)).1.2) ∧ sigN false (dg R) = (dvS true false (iv xn xs) (iv yn ys)).2.1.1 ∧ sigL (dg R) = (dvS true false (iv xn xs) (iv yn ys)).2.1.2 := fun Q R h1 h2 h3 h4 => dv_val hY h1 h2 h3 h4
    have hpos : ((nv xs : Nat) : Int) = ((nv xs / nv ys : Nat) : Int) * (nv ys : Int) + ((nv xs % nv ys : Nat) : Int) := by
      rw [← Int.natCast_mul, Nat.mul_comm (nv xs / nv ys)]; omega
    have hnb : (!xn == yn) = (xn != yn) := rfl
    simp only [h, h2, hY0, Bool.and_self, hnb, nv_dg, hone]
    refine ⟨⟨⟨⟨by omega, by omega⟩, gx.1, gy.1⟩, hY⟩, pcond_intro (fun h4 => pcond_intro (fun h5 => ?_) (fun h5 => ?_)) (fun h4 => ?_)⟩
    · simp only [decide_eq_true_eq] at h5
      have hR : nv xs % nv ys ≠ 0 := fun e => by rw [e, dg_zero] at h5; simp at h5
      obtain ⟨⟨v1, v2⟩, v3, v4⟩ := hdv (nv xs / nv ys + 1) (nv ys - nv xs % nv ys) (by omega) (Nat.le_trans (l2 hR) lx4) (Nat.le_trans (by
        have := dg_len_mono (show nv ys - nv xs % nv ys ≤ nv ys by omega)
        rwa [← gy.1] at this) ly4) (by
        subst h4
        simp only [if_true]
        have : ((nv xs / nv ys + 1 : Nat) : Int) * -1 * (nv ys : Int) = -(((nv xs / nv ys : Nat) : Int) * (nv ys : Int)) - (nv ys : Int) := by
          rw [Int.natCast_add]; exact neg_aux2 _ _
        rw [this]; omega)
      have l3 := l2 hR
      have l4 := dg_len_mono (show nv ys - nv xs % nv ys ≤ nv ys by omega)
      rw [← gy.1] at l4
      rw [v1, v2, v3, v4]
      exact ⟨⟨rfl, by omega, dg_dig _, by simp [Dig]⟩, ⟨⟨by omega, lrem, dy, dg_dig _⟩, by omega⟩, by omega, by omega, ⟨rfl, rfl, rfl⟩, ⟨rfl, rfl, rfl⟩, rfl⟩
    · simp only [decide_eq_false_iff_not] at h5
      have hR : nv xs % nv ys = 0 := by
        refine Classical.byContradiction fun hne => ?_
        rw [dg_pos hne] at h5
        simp at h5
      rw [hR] at hpos ⊢
      obtain ⟨⟨v1, v2⟩, v3, v4⟩ := hdv (nv xs / nv ys) 0 hY (Nat.le_trans l1 lx4) (by rw [dg_zero]; simp) (by
        subst h4
        simp only [if_true]
        rw [hpos]
        exact neg_aux _ _)
      rw [v1, v2, v3, v4]
      exact ⟨by omega, by rw [dg_zero]; simp, ⟨rfl, rfl, rfl⟩, ⟨rfl, rfl, rfl⟩, rfl⟩
    · obtain ⟨⟨v1, v2⟩, v3, v4⟩ := hdv (nv xs / nv ys) (nv xs % nv ys) hm (Nat.le_trans l1 lx4) (Nat.le_trans lrem ly4) (by
        subst h4
        simp only [Bool.false_eq_true, if_false, Int.mul_one]
        exact hpos)
      rw [v1, v2, v3, v4]
      exact ⟨by omega, by omega, ⟨rfl, rfl, rfl⟩, ⟨rfl, rfl, rfl⟩, rfl⟩
def ent_hDivide : Ent := fun ds => match ds with
  | [.agg [.v (.bool xn), .ro n_xs ys_xs], .agg [.v (.bool yn), .ro n_ys ys_ys]] => some (d_dv (dvS (validL xn (unu ys_xs) && validL yn (unu ys_ys)) (decide (nv (unu ys_ys) = 0)) (iv xn (unu ys_xs)) (iv yn (unu ys_ys))), (ys_ys = u32s (unu ys_ys) ∧ n_ys = (unu ys_ys).length) ∧ (ys_xs = u32s (unu ys_xs) ∧ n_xs = (unu ys_xs).length) ∧ LenOk (unu ys_xs) ∧ LenOk (unu ys_ys))
  | _ => none
theorem ent_hDivide_ok : EntOk Try.prog 13 ent_hDivide := by
  intro ds d c h hc; unfold ent_hDivide at h; split at h
  · rename_i xn n_xs ys_xs yn n_ys ys_ys; obtain ⟨rfl, rfl⟩ := pair_inj h
    obtain ⟨⟨h1, h2⟩, hc⟩ := hc; subst h2; generalize (unu ys_ys) = ys at *; subst h1
    obtain ⟨⟨h1, h2⟩, hc⟩ := hc; subst h2; generalize (unu ys_xs) = xs at *; subst h1
    exact hDivide_pure _ xs _ ys hc
  · cases h
end Go.Proofs.Ythnhfkpihbjddaa
end
section
namespace Go.Proofs.Ythnhfkpihbjddaa
set_option linter.unusedVariables false
set_option linter.unusedSimpArgs false
theorem lehmer_q {S U V x y l h k m q : Int} (hS : 0 < S) (h1 : (x + l) * S ≤ U) (h2 : U ≤ (x + h) * S) (h3 : (y + k) * S ≤ V) (h4 : V ≤ (y + m) * S) (hk : 0 < y + k) (hm : 0 < y + m) (hVU : V ≤ U)
    (hq1 : q = (x + h).tdiv (y + k)) (hq2 : q = (x + l).tdiv (y + m)) : 1 ≤ q ∧ 0 < V ∧ q * V ≤ U ∧ U < (q + 1) * V ∧ q * (y + m) ≤ x + l ∧ x + h < (q + 1) * (y + k) := by
  have hV0 : 0 < (y + k) * S := Int.mul_pos hk hS
  have hV : 0 < V := by omega
  have hxh : 0 < x + h := by
    refine Int.lt_of_not_ge fun hle => ?_
    have := Int.mul_le_mul_of_nonneg_right hle (Int.le_of_lt hS)
    rw [Int.zero_mul] at this
    omega
  have q1 : q = (x + h) / (y + k) := by rw [hq1, Int.tdiv_eq_ediv_of_nonneg (by omega)]
  have hlt : x + h < (q + 1) * (y + k) := by
    rw [q1]
    have := Int.lt_ediv_add_one_mul_self (x + h) hk
    exact this
  have hq0 : 1 ≤ q := by
    refine Int.le_of_not_gt fun hlt2 => ?_
    have h0 : 0 ≤ q := by rw [q1]; exact Int.ediv_nonneg (by omega) (by omega)
    have : q = 0 := by omega
    rw [this, Int.zero_add, Int.one_mul] at hlt
    have := Int.mul_le_mul_of_nonneg_right (show x + h ≤ y + k - 1 by omega) (Int.le_of_lt hS)
    rw [Int.sub_mul, Int.one_mul] at this
    omega
  have hxl : 0 ≤ x + l := by
    refine Int.le_of_not_gt fun hlt2 => ?_
    have : (x + l).tdiv (y + m) ≤ 0 := by
      have := Int.tdiv_nonneg (a := -(x + l)) (b := y + m) (by omega) (by omega)
      rw [Int.neg_tdiv] at this
      omega
    omega
  have q2 : q = (x + l) / (y + m) := by rw [hq2, Int.tdiv_eq_ediv_of_nonneg hxl]
  have hle : q * (y + m) ≤ x + l := by rw [q2]; exact Int.ediv_mul_le _ (by omega)
  refine ⟨hq0, hV, ?_, ?_, hle, hlt⟩
  · have a1 := Int.mul_le_mul_of_nonneg_left h4 (show 0 ≤ q by omega)
    have a2 := Int.mul_le_mul_of_nonneg_right hle (Int.le_of_lt hS)
    rw [Int.mul_assoc] at a2
    omega
  · have a1 := Int.mul_le_mul_of_nonneg_left h3 (show 0 ≤ q + 1 by omega)
    have a2 := Int.mul_le_mul_of_nonneg_right (show x + h ≤ (q + 1) * (y + k) - 1 by omega) (Int.le_of_lt hS)
    rw [Int.sub_mul, Int.mul_assoc, Int.one_mul] at a2
    omega
structure Leh (u v S x0 y0 x y a b c d : Int) : Prop where
  hx : x = a * x0 + b * y0
  hy : y = c * x0 + d * y0
  sign : ((0 ≤ a ∧ b ≤ 0) ∧ (c ≤ 0 ∧ 0 ≤ d) ∧ a * d - b * c = 1) ∨ ((a ≤ 0 ∧ 0 ≤ b) ∧ (0 ≤ c ∧ d ≤ 0) ∧ a * d - b * c = -1)
  ba : (-1073741824 < a ∧ a < 1073741824) ∧ -1073741824 < b ∧ b < 1073741824
  bc : (-1073741824 < c ∧ c < 1073741824) ∧ -1073741824 < d ∧ d < 1073741824
  V0 : 0 ≤ c * u + d * v
  VU : c * u + d * v ≤ a * u + b * v
  Uu : a * u + b * v ≤ u
  gcd : Int.gcd (a * u + b * v) (c * u + d * v) = Int.gcd u v
  first : (b = 0 ∧ c * u + d * v = v) ∨ c * u + d * v < v
structure Base (u v S x0 y0 : Int) : Prop where
  pos : 0 < S
  hu : x0 * S ≤ u ∧ u < x0 * S + S
  hv : y0 * S ≤ v ∧ v < y0 * S + S
  vu : 0 ≤ v ∧ v ≤ u
  x0 : 0 ≤ y0 ∧ x0 < 4611686018427387904
theorem cmp_mul {a b S : Int} (hS : 0 < S) (h : a * S < b * S + S) : a ≤ b := by
  refine Int.le_of_not_gt fun hlt => ?_
  have := Int.mul_le_mul_of_nonneg_right (show b + 1 ≤ a by omega) (Int.le_of_lt hS)
  rw [Int.add_mul, Int.one_mul] at this
  omega
theorem Base.y0x0 {u v S x0 y0 : Int} (h : Base u v S x0 y0) : y0 ≤ x0 := by
  obtain ⟨hS, hu, hv, hvu, h0⟩ := h
  exact cmp_mul hS (by omega)
theorem between {u v S x0 y0 a b : Int} (hu : x0 * S ≤ u ∧ u < x0 * S + S) (hv : y0 * S ≤ v ∧ v < y0 * S + S) (ha : 0 ≤ a) (hb : b ≤ 0) : (a * x0 + b * y0 + b) * S ≤ a * u + b * v ∧ a * u + b * v ≤ (a * x0 + b * y0 + a) * S := by
  have a1 := Int.mul_le_mul_of_nonneg_left hu.1 ha
  have a2 := Int.mul_le_mul_of_nonneg_left (show u ≤ x0 * S + S by omega) ha
  have b1 := Int.mul_le_mul_of_nonneg_left hv.1 (show 0 ≤ -b by omega)
  have b2 := Int.mul_le_mul_of_nonneg_left (show v ≤ y0 * S + S by omega) (show 0 ≤ -b by omega)
  constructor
  · grind
  · grind
theorem leh_start {u v S x0 y0 : Int} (h : Base u v S x0 y0) : Leh u v S x0 y0 x0 y0 1 0 0 1 := by
  obtain ⟨hS, hu, hv, hvu, h0⟩ := h
  exact ⟨by omega, by omega, .inl ⟨by omega, by omega, by omega⟩, by omega, by omega, by omega, by omega, by omega, by simp, .inl ⟨rfl, by omega⟩⟩
theorem leh_lhkm {u v S x0 y0 x y a b c d : Int} (hB : Base u v S x0 y0) (h : Leh u v S x0 y0 x y a b c d) :
    ∃ l h k m : Int, ((l = b ∧ h = a ∧ k = c ∧ m = d) ∨ (l = a ∧ h = b ∧ k = d ∧ m = c)) ∧ ((l ≤ 0 ∧ 0 ≤ h) ∧ k ≤ 0 ∧ 0 ≤ m) ∧
      ((x + l) * S ≤ a * u + b * v ∧ a * u + b * v ≤ (x + h) * S) ∧ ((y + k) * S ≤ c * u + d * v ∧ c * u + d * v ≤ (y + m) * S) := by
  obtain ⟨hx, hy, sg, ba, bc, V0, VU, Uu, g, f⟩ := h
  rcases sg with ⟨⟨s1, s2⟩, ⟨s3, s4⟩, _⟩ | ⟨⟨s1, s2⟩, ⟨s3, s4⟩, _⟩
  · have k1 := between hB.hu hB.hv s1 s2
    have k2 := between hB.hv hB.hu s4 s3
    refine ⟨b, a, c, d, .inl ⟨rfl, rfl, rfl, rfl⟩, ⟨⟨s2, s1⟩, s3, s4⟩, ?_, ?_⟩
    · rw [hx]; exact k1
    · rw [hy, Int.add_comm (c * x0), Int.add_comm (c * u)]; exact k2
  · have k1 := between hB.hv hB.hu s2 s1
    have k2 := between hB.hu hB.hv s3 s4
    refine ⟨a, b, d, c, .inr ⟨rfl, rfl, rfl, rfl⟩, ⟨⟨s1, s2⟩, s4, s3⟩, ?_, ?_⟩
    · rw [hx, Int.add_comm (a * x0), Int.add_comm (a * u)]; exact k1
    · rw [hy]; exact k2
theorem leh_facts {u v S x0 y0 x y a b c d : Int} (hB : Base u v S x0 y0) (h : Leh u v S x0 y0 x y a b c d) :
    (-1073741824 < x ∧ x < 4611686018427387904 + 1073741824) ∧ (-1073741824 < y ∧ y < 4611686018427387904 + 1073741824) := by
  obtain ⟨l, h', k, m, e, ⟨⟨l0, h0⟩, k0, m0⟩, ⟨u1, u2⟩, v1, v2⟩ := leh_lhkm hB h
  obtain ⟨hx, hy, sg, ba, bc, V0, VU, Uu, g, f⟩ := h
  have hS := hB.pos
  have hu := hB.hu
  have hx0 := hB.x0
  have low : ∀ z W : Int, 0 ≤ W → W ≤ z * S → 0 ≤ z := fun z W h0 hW => by
    refine Int.le_of_not_gt fun hlt => ?_
    have := Int.mul_lt_mul_of_pos_right hlt hS
    rw [Int.zero_mul] at this
    omega
  have a1 := cmp_mul (a := x + l) (b := x0) hS (by omega)
  have a2 := cmp_mul (a := y + k) (b := x0) hS (by omega)
  have a3 := low (x + h') _ (by omega) u2
  have a4 := low (y + m) _ V0 v2
  rcases e with ⟨rfl, rfl, rfl, rfl⟩ | ⟨rfl, rfl, rfl, rfl⟩ <;> omega
theorem leh_ov {u v S x0 y0 x y a b c d q : Int} (hB : Base u v S x0 y0) (h : Leh u v S x0 y0 x y a b c d) (hc : 0 < y + c) (hd : 0 < y + d) (hq1 : q = (x + a).tdiv (y + c)) (hq2 : q = (x + b).tdiv (y + d)) :
    (1 ≤ q ∧ 0 < c * u + d * v ∧ q * (c * u + d * v) ≤ a * u + b * v ∧ a * u + b * v < (q + 1) * (c * u + d * v)) ∧ (0 < y ∧ x - q * y < y) ∧ (0 ≤ q * y ∧ q * y ≤ 4611686018427387904) ∧ (-4611686018427387904 ≤ q * c ∧ q * c ≤ 4611686018427387904) ∧ -4611686018427387904 ≤ q * d ∧ q * d ≤ 4611686018427387904 := by
  obtain ⟨l, h', k, m, e, ⟨⟨l0, h0⟩, k0, m0⟩, ⟨u1, u2⟩, v1, v2⟩ := leh_lhkm hB h
  have hf := leh_facts hB h
  obtain ⟨hx, hy, sg, ba, bc, V0, VU, Uu, g, f⟩ := h
  have hS := hB.pos
  have hu := hB.hu
  have hx0 := hB.x0
  have hyx := hB.y0x0
  have a1 := cmp_mul (a := x + l) (b := x0) hS (by omega)
  have key : 1 ≤ q ∧ 0 < c * u + d * v ∧ q * (c * u + d * v) ≤ a * u + b * v ∧ a * u + b * v < (q + 1) * (c * u + d * v) ∧ q * (y + m) ≤ x + l ∧ x + h' < (q + 1) * (y + k) := by
    rcases e with ⟨rfl, rfl, rfl, rfl⟩ | ⟨rfl, rfl, rfl, rfl⟩
    · exact lehmer_q hS u1 u2 v1 v2 hc hd VU hq1 hq2
    · exact lehmer_q hS u1 u2 v1 v2 hd hc VU hq2 hq1
  obtain ⟨q1, q2, q3, q4, q5, q6⟩ := key
  have hy0 : 0 < y := by rcases e with ⟨rfl, rfl, rfl, rfl⟩ | ⟨rfl, rfl, rfl, rfl⟩ <;> omega
  have hqm : 0 ≤ q * m := Int.mul_nonneg (by omega) m0
  have hqk : 0 ≤ q * -k := Int.mul_nonneg (by omega) (by omega)
  have hqy : 0 ≤ q * y := Int.mul_nonneg (by omega) (by omega)
  rw [Int.mul_add] at q5
  rw [Int.add_mul, Int.one_mul, Int.mul_add] at q6
  rw [Int.mul_neg] at hqk
  have hqx : q ≤ x := by
    have := Int.mul_le_mul_of_nonneg_left (show 1 ≤ y by omega) (show 0 ≤ q by omega)
    rw [Int.mul_one] at this
    omega
  have hbd : ∀ z : Int, 0 ≤ z → z * x ≤ x0 → q * z ≤ 4611686018427387904 := fun z h1 h2 => by
    have := Int.mul_le_mul_of_nonneg_right hqx h1
    rw [Int.mul_comm x z] at this
    omega
  refine ⟨⟨q1, q2, q3, q4⟩, ⟨hy0, by omega⟩, ⟨hqy, by omega⟩, ?_⟩
  rcases sg with ⟨⟨s1, s2⟩, ⟨s3, s4⟩, dt⟩ | ⟨⟨s1, s2⟩, ⟨s3, s4⟩, dt⟩
  · have e1 : d * x - b * y = x0 := by
      have : (a * d - b * c) * x0 = x0 := by rw [dt, Int.one_mul]
      rw [hx, hy]; grind
    have e2 : a * y - c * x = y0 := by
      have : (a * d - b * c) * y0 = y0 := by rw [dt, Int.one_mul]
      rw [hx, hy]; grind
    have n1 := Int.mul_nonneg (show 0 ≤ -b by omega) (Int.le_of_lt hy0)
    have n2 := Int.mul_nonneg s1 (Int.le_of_lt hy0)
    rw [Int.neg_mul] at n1
    have g1 := hbd d s4 (by omega)
    have g2 := hbd (-c) (by omega) (by rw [Int.neg_mul]; omega)
    have g3 := Int.mul_nonneg (show 0 ≤ q by omega) s4
    have g4 := Int.mul_nonneg (show 0 ≤ q by omega) (show 0 ≤ -c by omega)
    rw [Int.mul_neg] at g2 g4
    omega
  · have e1 : b * y - d * x = x0 := by
      have : (a * d - b * c) * x0 = -x0 := by rw [dt]; omega
      rw [hx, hy]; grind
    have e2 : c * x - a * y = y0 := by
      have : (a * d - b * c) * y0 = -y0 := by rw [dt]; omega
      rw [hx, hy]; grind
    have n1 := Int.mul_nonneg s2 (Int.le_of_lt hy0)
    have n2 := Int.mul_nonneg (show 0 ≤ -a by omega) (Int.le_of_lt hy0)
    rw [Int.neg_mul] at n2
    have g1 := hbd (-d) (by omega) (by rw [Int.neg_mul]; omega)
    have g2 := hbd c s3 (by omega)
    have g3 := Int.mul_nonneg (show 0 ≤ q by omega) (show 0 ≤ -d by omega)
    have g4 := Int.mul_nonneg (show 0 ≤ q by omega) s3
    rw [Int.mul_neg] at g1 g3
    omega
theorem leh_step {u v S x0 y0 x y a b c d q : Int} (hB : Base u v S x0 y0) (h : Leh u v S x0 y0 x y a b c d) (hc : 0 < y + c) (hd : 0 < y + d) (hq1 : q = (x + a).tdiv (y + c)) (hq2 : q = (x + b).tdiv (y + d))
    (b1 : -1073741824 < a - q * c ∧ a - q * c < 1073741824) (b2 : -1073741824 < b - q * d ∧ b - q * d < 1073741824) : Leh u v S x0 y0 y (x - q * y) c d (a - q * c) (b - q * d) := by
  obtain ⟨⟨q1, q2, q3, q4⟩, _⟩ := leh_ov hB h hc hd hq1 hq2
  obtain ⟨hx, hy, sg, ba, bc, V0, VU, Uu, g, f⟩ := h
  have eV : (a - q * c) * u + (b - q * d) * v = (a * u + b * v) - q * (c * u + d * v) := by grind
  rw [Int.add_mul, Int.one_mul] at q4
  refine ⟨hy, ?_, ?_, bc, ⟨b1, b2⟩, by rw [eV]; omega, by rw [eV]; omega, by omega, ?_, ?_⟩
  · rw [hx, hy]; grind
  · rcases sg with ⟨⟨s1, s2⟩, ⟨s3, s4⟩, dt⟩ | ⟨⟨s1, s2⟩, ⟨s3, s4⟩, dt⟩
    · refine .inr ⟨⟨s3, s4⟩, ⟨?_, ?_⟩, by grind⟩
      · have := Int.mul_nonneg (show 0 ≤ q by omega) (show 0 ≤ -c by omega)
        rw [Int.mul_neg] at this; omega
      · have := Int.mul_nonneg (show 0 ≤ q by omega) s4
        omega
    · refine .inl ⟨⟨s3, s4⟩, ⟨?_, ?_⟩, by grind⟩
      · have := Int.mul_nonneg (show 0 ≤ q by omega) s3
        omega
      · have := Int.mul_nonneg (show 0 ≤ q by omega) (show 0 ≤ -d by omega)
        rw [Int.mul_neg] at this; omega
  · rw [eV, Int.gcd_sub_mul_right_right, Int.gcd_comm]; exact g
  · right
    rw [eV]
    have hvu := hB.vu
    rcases f with ⟨_, f⟩ | f <;> omega
def lsQ (x y a c : Int) : Int := (x + a).tdiv (y + c)
def lsM (c d : Int) : Int := max (max (max c (-c)) d) (-d)
def lsF (x y a b c d : Int) : Int × Int × Int × Int :=
  if 0 < y + c ∧ 0 < y + d then
    if lsQ x y a c = lsQ x y b d then
      if 1073741824 ≤ lsM (a - lsQ x y a c * c) (b - lsQ x y a c * d) then (a, b, c, d)
      else if h : (x - lsQ x y a c * y).toNat < y.toNat then lsF y (x - lsQ x y a c * y) c d (a - lsQ x y a c * c) (b - lsQ x y a c * d) else (a, b, c, d)
    else (a, b, c, d)
  else (a, b, c, d)
termination_by y.toNat
theorem lsM_lt {c d : Int} (h : ¬ 1073741824 ≤ lsM c d) : (-1073741824 < c ∧ c < 1073741824) ∧ -1073741824 < d ∧ d < 1073741824 := by
  unfold lsM at h; omega
theorem lsF_spec {u v S x0 y0 : Int} (hB : Base u v S x0 y0) : ∀ (n : Nat) (x y a b c d : Int), y.toNat = n → Leh u v S x0 y0 x y a b c d →
    ∃ x' y', Leh u v S x0 y0 x' y' (lsF x y a b c d).1 (lsF x y a b c d).2.1 (lsF x y a b c d).2.2.1 (lsF x y a b c d).2.2.2 := by
  intro n
  induction n using Nat.strongRecOn with
  | _ n ih =>
    intro x y a b c d hn h
    rw [lsF]
    split
    · rename_i h1
      split
      · rename_i h2
        split
        · exact ⟨x, y, h⟩
        · rename_i h3
          obtain ⟨g1, g2⟩ := lsM_lt h3
          split
          · rename_i h4
            exact ih _ (by rw [← hn]; exact h4) _ _ _ _ _ _ rfl (leh_step hB h h1.1 h1.2 rfl h2 g1 g2)
          · exact ⟨x, y, h⟩
      · exact ⟨x, y, h⟩
    · exact ⟨x, y, h⟩
end Go.Proofs.Ythnhfkpihbjddaa
end
section
namespace Go.Proofs.Ythnhfkpihbjddaa
open Go.VD
set_option linter.unusedVariables false
set_option linter.unusedSimpArgs false
set_option maxRecDepth 100000
def lp_gcdwLoop (x0 y0 : Nat) : LoopO := loopRule (α := Nat × Nat) (β := Unit) [] (fun s => (s.1 < 18446744073709551616 ∧ s.2 < 18446744073709551616) ∧ Nat.gcd s.1 s.2 = Nat.gcd x0 y0) (fun s => [(0, .v (.int .u64 (s.1 : Int))), (1, .v (.int .u64 (s.2 : Int)))]) (fun _ => []) ((x0, y0)) (fun _ => True) (fun _ => (.exit 0, [(0, .v (.int .u64 (Nat.gcd x0 y0 : Nat)))], []))
theorem gcdwLoop_rule (x0 y0 : Nat) : LRuleP Try.prog Try.f105.ntmps (loopAt ((Try.f105.body).getD .skip) 1) (lp_gcdwLoop x0 y0) := by
  refine lrule_of (α := Nat × Nat) (β := Unit) (call := noCalls) (lp := fun _ => none) (N := 10) T_ok mixed noCalls_ok (fun s => s.2) (by kernel_rfl) (LpAllP.none _) ?_
  intro x hJ
  refine of_eq (B := letI z3 := (Exit.exit (0 : Nat)); letI z2 := ([] : List (Option Blk)); letI z0 := (Prod.mk z3 (Prod.mk [(Prod.mk (0 : Nat) (D.v (Value.int IntKind.u64 (((Nat.gcd x0 y0) : Nat) : Int))))] z2)); letI z1 := (((Prod.snd x) : Nat) : Int); letI z4 := (18446744073709551616 : Nat); letI z5 := (((Prod.fst x) : Nat) : Int); letI z6 := (List (Option Nat)); (True ∧ (True ∧ (pcond (z1 != (0 : Int)) (True ∧ (True ∧ (True ∧ ((z1 ≠ (0 : Int)) ∧ (True ∧ (True ∧ ((Bool.true = Bool.true) ∧ (∃ (y : (Prod Nat Nat)), (∃ (kp : z6), (((Prod.snd y) < (Prod.snd x)) ∧ (((((Prod.fst y) < z4) ∧ ((Prod.snd y) < z4)) ∧ ((Nat.gcd (Prod.fst y) (Prod.snd y)) = (Nat.gcd x0 y0))) ∧ (viewAll kp [(Prod.mk (0 : Nat) (D.v (Value.int IntKind.u64 z1))), (Prod.mk (1 : Nat) (D.v (Value.int IntKind.u64 (Int.tmod z5 z1))))] z2 [(Prod.mk (0 : Nat) (D.v (Value.int IntKind.u64 (((Prod.fst y) : Nat) : Int)))), (Prod.mk (1 : Nat) (D.v (Value.int IntKind.u64 (((Prod.snd y) : Nat) : Int))))] z2)))))))))))) (∃ (r : Unit), (∃ (kp : z6), (True ∧ ((z3 = z3) ∧ (viewAll kp [(Prod.mk (0 : Nat) (D.v (Value.int IntKind.u64 z5)))] z2 (Prod.fst (Prod.snd ((fun (x_1 : Unit) => z0) r))) (Prod.snd (Prod.snd ((fun (x_1 : Unit) => z0) r)))))))))))) (by kernel_rfl) ?_
  obtain ⟨a, b⟩ := x
  obtain ⟨⟨ha, hb⟩, hg⟩ := hJ
  simp only [true_and, and_true, and_self, IsInt_lit, IsBool_lit, IsStr_lit, Bool.not_eq_true', Bool.not_eq_false', Bool.not_true, Bool.not_false, Int.reduceLE, Int.reduceLT, Int.reduceNeg, Nat.le_refl, Int.le_refl, Nat.reduceLT, Nat.reduceLeDiff, Nat.reduceEqDiff, D.v.injEq, D.tup.injEq, D.agg.injEq, D.ro.injEq, List.cons.injEq, Value.int.injEq, Value.bool.injEq, pcond_true, pcond_false, NamelessL, Nameless, Nat.reduceMul, Nat.reduceAdd, Nat.zero_add, Int.toNat_natCast] at *
  refine pcond_intro (fun h => ?_) (fun h => ?_)
  · have hb0 : b ≠ 0 := by simpa using h
    have hm := Nat.mod_lt a (show 0 < b by omega)
    refine ⟨by omega, (b, a % b), [], by simp only; omega, ⟨⟨hb, by simp only; omega⟩, ?_⟩, ?_⟩
    · simp only
      rw [← hg, Nat.gcd_comm a b, Nat.gcd_rec b a, Nat.gcd_comm]
    · have e : (a : Int).tmod (b : Int) = ((a % b : Nat) : Int) := by rw [Int.tmod_eq_emod_of_nonneg (by omega), ← Int.natCast_emod]
      rw [e]
      refine of_eq (B := letI z0 := (D.v (Value.int IntKind.u64 (((a % b) : Nat) : Int))); letI z1 := (D.v (Value.int IntKind.u64 ((b : Nat) : Int))); letI z2 := ([] : List (Option Blk)); ((Bool.true = Bool.true) ∧ ((z2 = z2) ∧ ((True ∧ (z1 = z1)) ∧ ((True ∧ (z0 = z0)) ∧ True))))) (by kernel_rfl) ?_
      simp
  · have hb0 : b = 0 := by simpa using h
    subst hb0
    rw [Nat.gcd_zero_right] at hg
    rw [← hg]
    refine ⟨(), [], ?_⟩
    refine of_eq (B := letI z0 := (D.v (Value.int IntKind.u64 ((a : Nat) : Int))); letI z1 := ([] : List (Option Blk)); ((Bool.true = Bool.true) ∧ ((z1 = z1) ∧ ((True ∧ (z0 = z0)) ∧ True)))) (by kernel_rfl) ?_
    simp
theorem igcdw_pure (x y : Int) (hpre : (0 ≤ x ∧ x < 18446744073709551616) ∧ 0 ≤ y ∧ y < 18446744073709551616) : PureJ Try.prog 105 [.v (.int .u64 x), .v (.int .u64 y)] (.v (.int .u64 (Nat.gcd x.toNat y.toNat : Nat))) := by
  refine pureJ_of_vcp (call := noCalls) (lp := fun k => bif Nat.beq k 1 then some (lp_gcdwLoop x.toNat y.toNat) else none) (N := 10) T_ok mixed noCalls_ok Try.func105 rfl (by decide) (by kernel_rfl) (by kernel_rfl) (of_eq (B := LRuleP Try.prog Try.f105.ntmps (loopAt ((Try.f105.body).getD .skip) 1) (lp_gcdwLoop x.toNat y.toNat) ∧ True) (by kernel_rfl) ⟨gcdwLoop_rule x.toNat y.toNat, trivial⟩) (by first | trivial | (simp only [NamelessL, Nameless, and_self, and_true, true_and]; done) | (simp [NamelessL, Nameless, u32s_nameless, namelessL_ints]; done)) (by first | trivial | (simp only [NamelessL, Nameless, and_self, and_true, true_and]; done) | (simp [NamelessL, Nameless, u32s_nameless, namelessL_ints]; done)) ?_
  refine of_eq (B := letI z0 := (Nat.gcd (Int.toNat x) (Int.toNat y)); letI z1 := (D.v (Value.int IntKind.u64 ((z0 : Nat) : Int))); letI z2 := (18446744073709551616 : Nat); letI z3 := ([] : List (Option Blk)); (True ∧ (((((Int.toNat x) < z2) ∧ ((Int.toNat y) < z2)) ∧ (z0 = z0)) ∧ (((Bool.true = Bool.true) ∧ ((z3 = z3) ∧ ((True ∧ ((D.v (Value.int IntKind.u64 x)) = (D.v (Value.int IntKind.u64 (((Int.toNat x) : Nat) : Int))))) ∧ ((True ∧ ((D.v (Value.int IntKind.u64 y)) = (D.v (Value.int IntKind.u64 (((Int.toNat y) : Nat) : Int))))) ∧ True)))) ∧ (Unit → (True → (True ∧ (True ∧ (True ∧ (True ∧ (z1 = z1))))))))))) (by kernel_rfl) ?_
  obtain ⟨⟨hx0, hx⟩, hy0, hy⟩ := hpre
  obtain ⟨x, rfl⟩ := Int.eq_ofNat_of_zero_le hx0
  obtain ⟨y, rfl⟩ := Int.eq_ofNat_of_zero_le hy0
  simp only [true_and, and_true, and_self, IsInt_lit, IsBool_lit, IsStr_lit, Bool.not_eq_true', Bool.not_eq_false', Bool.not_true, Bool.not_false, Int.reduceLE, Int.reduceLT, Int.reduceNeg, Nat.le_refl, Int.le_refl, Nat.reduceLT, Nat.reduceLeDiff, Nat.reduceEqDiff, D.v.injEq, D.tup.injEq, D.agg.injEq, D.ro.injEq, List.cons.injEq, Value.int.injEq, Value.bool.injEq, pcond_true, pcond_false, NamelessL, Nameless, Nat.reduceMul, Nat.reduceAdd, Nat.zero_add, Int.toNat_natCast, Int.ofNat_eq_natCast] at *
  exact ⟨⟨by omega, by omega⟩, fun _ _ => trivial⟩
def ent_igcdw : Ent := fun ds => match ds with
  | [.v (.int .u64 x), .v (.int .u64 y)] => some (.v (.int .u64 (Nat.gcd x.toNat y.toNat : Nat)), (0 ≤ x ∧ x < 18446744073709551616) ∧ 0 ≤ y ∧ y < 18446744073709551616)
  | _ => none
theorem ent_igcdw_ok : EntOk Try.prog 105 ent_igcdw := by
  intro ds d c h hc; unfold ent_igcdw at h; split at h
  · obtain ⟨rfl, rfl⟩ := pair_inj h; exact igcdw_pure _ _ hc
  · cases h
theorem window_val {xs : List Nat} {n : Nat} (hd : Dig xs) (hv : nv xs < 4611686018427387904 * 2 ^ n) :
    (xs.getD (n / 32) 0 + 4294967296 * xs.getD (n / 32 + 1) 0) / 2 ^ (n % 32) < 2 ^ (64 - n % 32) ∧ nv xs / 2 ^ n < 4611686018427387904 ∧
    (xs.getD (n / 32) 0 + 4294967296 * xs.getD (n / 32 + 1) 0) / 2 ^ (n % 32) + xs.getD (n / 32 + 2) 0 * 2 ^ (64 - n % 32) = nv xs / 2 ^ n := by
  have d0 := hd.get (n / 32)
  have d1 := hd.get (n / 32 + 1)
  have hp : 0 < 2 ^ (n % 32) := Nat.pow_pos (by decide)
  have hpn : 0 < 2 ^ n := Nat.pow_pos (by decide)
  have e64 : (18446744073709551616 : Nat) = 2 ^ (n % 32) * 2 ^ (64 - n % 32) := by rw [← Nat.pow_add, show n % 32 + (64 - n % 32) = 64 by omega]
  have en : 2 ^ n = 4294967296 ^ (n / 32) * 2 ^ (n % 32) := by
    rw [show (4294967296 : Nat) = 2 ^ 32 by rfl, ← Nat.pow_mul, ← Nat.pow_add]
    congr 1; omega
  have hlt : nv xs / 2 ^ n < 4611686018427387904 := by rw [Nat.div_lt_iff_lt_mul hpn]; exact hv
  have ediv : nv xs / 2 ^ n = nv (xs.drop (n / 32)) / 2 ^ (n % 32) := by
    by_cases hl : n / 32 ≤ xs.length
    · rw [en, ← Nat.div_div_eq_div_mul, ← nv_drop_div hd hl]
    · rw [nv_drop_ge (by omega)]
      have h1 : nv xs < 2 ^ n := by
        have := nv_lt hd
        have h2 := Nat.pow_le_pow_right (show 0 < 4294967296 by decide) (show xs.length ≤ n / 32 by omega)
        have h3 : 4294967296 ^ (n / 32) * 1 ≤ 4294967296 ^ (n / 32) * 2 ^ (n % 32) := Nat.mul_le_mul_left _ hp
        rw [en]; omega
      rw [Nat.div_eq_of_lt h1]; simp
  have e3 : nv (xs.drop (n / 32)) = (xs.getD (n / 32) 0 + 4294967296 * xs.getD (n / 32 + 1) 0) + 18446744073709551616 * nv (xs.drop (n / 32 + 2)) := by
    rw [nv_drop_succ, nv_drop_succ xs (n / 32 + 1), show n / 32 + 1 + 1 = n / 32 + 2 by omega]; omega
  have hlow : (xs.getD (n / 32) 0 + 4294967296 * xs.getD (n / 32 + 1) 0) / 2 ^ (n % 32) < 2 ^ (64 - n % 32) := by
    rw [Nat.div_lt_iff_lt_mul hp, Nat.mul_comm (2 ^ (64 - n % 32)), ← e64]; omega
  have e4 : nv xs / 2 ^ n = (xs.getD (n / 32) 0 + 4294967296 * xs.getD (n / 32 + 1) 0) / 2 ^ (n % 32) + 2 ^ (64 - n % 32) * nv (xs.drop (n / 32 + 2)) := by
    rw [ediv, e3, e64, Nat.mul_assoc, Nat.add_mul_div_left _ _ hp]
  have hrest : nv (xs.drop (n / 32 + 2)) = xs.getD (n / 32 + 2) 0 := by
    rw [nv_drop_succ]
    have h5 : nv (xs.drop (n / 32 + 2)) < 4294967296 := by
      refine Nat.lt_of_not_le fun hge => ?_
      have h6 : 2 ^ (64 - n % 32) * 4294967296 ≤ 2 ^ (64 - n % 32) * nv (xs.drop (n / 32 + 2)) := Nat.mul_le_mul_left _ hge
      have h7 : 8589934592 ≤ 2 ^ (64 - n % 32) := Nat.pow_le_pow_right (show 0 < 2 by decide) (show 33 ≤ 64 - n % 32 by omega)
      rw [e4] at hlt
      generalize (xs.getD (n / 32) 0 + 4294967296 * xs.getD (n / 32 + 1) 0) / 2 ^ (n % 32) = L at *
      generalize 2 ^ (64 - n % 32) * nv (xs.drop (n / 32 + 2)) = W at *
      generalize 2 ^ (64 - n % 32) = V at *
      omega
    rw [nv_drop_succ] at h5
    omega
  refine ⟨hlow, hlt, ?_⟩
  rw [e4, hrest, Nat.mul_comm (2 ^ (64 - n % 32))]
theorem iwindow_pure (xs : List Nat) (n : Int) (hpre : (xs.length ≤ 1000000 ∧ Dig xs) ∧ (0 ≤ n ∧ n < 64000000) ∧ nv xs < 4611686018427387904 * 2 ^ n.toNat) : PureJ Try.prog 125 [.ro xs.length (u32s xs), .v (.int .i64 n)] (.v (.int .i64 (nv xs / 2 ^ n.toNat : Nat))) := by
  refine pureJ_of_vcx (call := (addPure 96 ent_iat noCalls)) (lp := fun _ => none) (N := 10) T_ok mixed (addPure_ok ent_iat_ok noCalls_ok) Try.func125 rfl (by decide) (by kernel_rfl) (by kernel_rfl) (LpAll.none _) (by first | trivial | (simp only [NamelessL, Nameless, and_self, and_true, true_and]; done) | (simp [NamelessL, Nameless, u32s_nameless, namelessL_ints]; done)) (by first | trivial | (simp only [NamelessL, Nameless, and_self, and_true, true_and]; done) | (simp [NamelessL, Nameless, u32s_nameless, namelessL_ints]; done)) ?_
  refine of_eq (B := letI z0 := (IntKind.wrap IntKind.i64 (Int.tdiv n (32 : Int))); letI z3 := (unu (u32s xs)); letI z1 := (((u32s xs) = (u32s z3)) ∧ ((List.length xs) = (List.length z3))); letI z5 := (Int.tmod n (32 : Int)); letI z2 := (IntKind.wrap IntKind.i64 ((64 : Int) - z5)); letI z4 := (IntKind.wrap IntKind.i64 (z0 + (1 : Int))); letI z6 := (IntKind.wrap IntKind.i64 (z0 + (2 : Int))); letI z7 := ((32 : Int) ≠ (0 : Int)); (True ∧ (True ∧ (z7 ∧ (True ∧ (z7 ∧ (True ∧ (True ∧ (True ∧ (True ∧ (True ∧ ((z1 ∧ ((0 : Int) ≤ z4)) ∧ (True ∧ (((0 : Int) ≤ (32 : Int)) ∧ (True ∧ (True ∧ ((z1 ∧ ((0 : Int) ≤ z0)) ∧ (True ∧ (True ∧ (True ∧ (True ∧ (True ∧ (((0 : Int) ≤ z5) ∧ (True ∧ (True ∧ (True ∧ ((z1 ∧ ((0 : Int) ≤ z6)) ∧ (True ∧ (True ∧ (True ∧ (((0 : Int) ≤ z2) ∧ (True ∧ (True ∧ (True ∧ ((Bool.true = Bool.true) ∧ (True ∧ (True ∧ ((D.v (Value.int IntKind.i64 (IntKind.wrap IntKind.i64 (bits BinOp.or IntKind.u64 (Int.fdiv (bits BinOp.or IntKind.u64 (IntKind.wrap IntKind.u64 ((IntKind.wrap IntKind.u64 (((List.getD z3 (Int.toNat z4) (0 : Nat)) : Nat) : Int)) * (4294967296 : Int))) (IntKind.wrap IntKind.u64 (((List.getD z3 (Int.toNat z0) (0 : Nat)) : Nat) : Int))) ((2 : Int) ^ (Min.min (Int.toNat z5) (64 : Nat)))) (IntKind.wrap IntKind.u64 ((IntKind.wrap IntKind.u64 (((List.getD z3 (Int.toNat z6) (0 : Nat)) : Nat) : Int)) * ((2 : Int) ^ (Min.min (Int.toNat z2) (64 : Nat))))))))) = (D.v (Value.int IntKind.i64 ((((nv xs) / ((2 : Nat) ^ (Int.toNat n))) : Nat) : Int))))))))))))))))))))))))))))))))))))))))) (by kernel_rfl) ?_
  obtain ⟨⟨hb, hd⟩, ⟨hn0, hn⟩, hv⟩ := hpre
  obtain ⟨n, rfl⟩ := Int.eq_ofNat_of_zero_le hn0
  simp only [Int.toNat_natCast, Int.ofNat_eq_natCast] at hv hn
  have e1 : (n : Int).tdiv 32 = ((n / 32 : Nat) : Int) := by rw [Int.tdiv_eq_ediv_of_nonneg (by omega)]; omega
  have e2 : (n : Int).tmod 32 = ((n % 32 : Nat) : Int) := by rw [Int.tmod_eq_emod_of_nonneg (by omega)]; omega
  have w1 : IntKind.i64.wrap ((n / 32 : Nat) : Int) = ((n / 32 : Nat) : Int) := wrap_i64_of (by omega) (by omega)
  have w2 : IntKind.i64.wrap (((n / 32 : Nat) : Int) + 1) = ((n / 32 + 1 : Nat) : Int) := by rw [wrap_i64_of (by omega) (by omega)]; omega
  have w3 : IntKind.i64.wrap (((n / 32 : Nat) : Int) + 2) = ((n / 32 + 2 : Nat) : Int) := by rw [wrap_i64_of (by omega) (by omega)]; omega
  have w4 : IntKind.i64.wrap (64 - ((n % 32 : Nat) : Int)) = ((64 - n % 32 : Nat) : Int) := by rw [wrap_i64_of (by omega) (by omega)]; omega
  have d0 := hd.get (n / 32)
  have d1 := hd.get (n / 32 + 1)
  have d2 := hd.get (n / 32 + 2)
  have hw := window_val (xs := xs) (n := n) hd hv
  simp only [true_and, and_true, and_self, IsInt_lit, IsBool_lit, IsStr_lit, Bool.not_eq_true', Bool.not_eq_false', Bool.not_true, Bool.not_false, Int.reduceLE, Int.reduceLT, Int.reduceNeg, Nat.le_refl, Int.le_refl, Nat.reduceLT, Nat.reduceLeDiff, Nat.reduceEqDiff, D.v.injEq, D.tup.injEq, D.agg.injEq, D.ro.injEq, List.cons.injEq, Value.int.injEq, Value.bool.injEq, pcond_true, pcond_false, NamelessL, Nameless, Nat.reduceMul, Nat.reduceAdd, Nat.zero_add, Int.toNat_natCast, unu_u32s, Int.ofNat_eq_natCast, e1, e2, w1, w2, w3, w4, show min (n % 32) 64 = n % 32 by omega, show min (64 - n % 32) 64 = 64 - n % 32 by omega]
  have hor : Go.bits BinOp.or IntKind.u64 (IntKind.u64.wrap (IntKind.u64.wrap ((xs.getD (n / 32 + 1) 0 : Nat) : Int) * 4294967296)) (IntKind.u64.wrap ((xs.getD (n / 32) 0 : Nat) : Int)) = ((xs.getD (n / 32) 0 + 4294967296 * xs.getD (n / 32 + 1) 0 : Nat) : Int) := by
    have := or_shift d1 d0
    rwa [wrap_u64_of (n := ((xs.getD (n / 32 + 1) 0 : Nat) : Int)) (by omega) (by omega)]
  rw [hor]
  obtain ⟨h1, h2, h3⟩ := hw
  have hfd : ∀ a : Nat, (a : Int).fdiv (2 ^ (n % 32)) = ((a / 2 ^ (n % 32) : Nat) : Int) := fun a => by
    rw [Int.fdiv_eq_ediv_of_nonneg _ (Int.le_of_lt (Int.pow_pos (by decide))), Int.natCast_ediv]; simp
  have h4 : xs.getD (n / 32 + 2) 0 * 2 ^ (64 - n % 32) < 4611686018427387904 := by
    generalize (xs.getD (n / 32) 0 + 4294967296 * xs.getD (n / 32 + 1) 0) / 2 ^ (n % 32) = L at *
    generalize xs.getD (n / 32 + 2) 0 * 2 ^ (64 - n % 32) = W at *
    generalize nv xs / 2 ^ n = Q at *
    omega
  have hsh : IntKind.u64.wrap (IntKind.u64.wrap ((xs.getD (n / 32 + 2) 0 : Nat) : Int) * 2 ^ (64 - n % 32)) = ((xs.getD (n / 32 + 2) 0 * 2 ^ (64 - n % 32) : Nat) : Int) := by
    rw [wrap_u64_of (n := ((xs.getD (n / 32 + 2) 0 : Nat) : Int)) (by omega) (by omega)]
    have : ((xs.getD (n / 32 + 2) 0 : Nat) : Int) * 2 ^ (64 - n % 32) = ((xs.getD (n / 32 + 2) 0 * 2 ^ (64 - n % 32) : Nat) : Int) := by simp
    rw [this]
    generalize xs.getD (n / 32 + 2) 0 * 2 ^ (64 - n % 32) = W at *
    exact wrap_u64_of (by omega) (by omega)
  have h5 : (xs.getD (n / 32) 0 + 4294967296 * xs.getD (n / 32 + 1) 0) / 2 ^ (n % 32) < 18446744073709551616 := by
    have := Nat.div_le_self (xs.getD (n / 32) 0 + 4294967296 * xs.getD (n / 32 + 1) 0) (2 ^ (n % 32))
    omega
  have hfin : IntKind.i64.wrap (Go.bits BinOp.or IntKind.u64 (((xs.getD (n / 32) 0 + 4294967296 * xs.getD (n / 32 + 1) 0 : Nat) : Int).fdiv (2 ^ (n % 32))) (IntKind.u64.wrap (IntKind.u64.wrap ((xs.getD (n / 32 + 2) 0 : Nat) : Int) * 2 ^ (64 - n % 32)))) = ((nv xs / 2 ^ n : Nat) : Int) := by
    rw [hfd, hsh, bits_or_u64_nat _ _ h5 (by omega), Nat.or_comm, ← Nat.shiftLeft_eq, ← Nat.shiftLeft_add_eq_or_of_lt h1, Nat.shiftLeft_eq, Nat.add_comm (_ * _), h3]
    generalize nv xs / 2 ^ n = Q at *
    exact wrap_i64_of (by omega) (by omega)
  refine ⟨by omega, by omega, by omega, by omega, by omega, by omega, by omega, hfin⟩
def ent_iwindow : Ent := fun ds => match ds with
  | [.ro n_xs ys_xs, .v (.int .i64 n)] => some (.v (.int .i64 (nv (unu ys_xs) / 2 ^ n.toNat : Nat)), (ys_xs = u32s (unu ys_xs) ∧ n_xs = (unu ys_xs).length) ∧ ((unu ys_xs).length ≤ 1000000 ∧ Dig (unu ys_xs)) ∧ (0 ≤ n ∧ n < 64000000) ∧ nv (unu ys_xs) < 4611686018427387904 * 2 ^ n.toNat)
  | _ => none
theorem ent_iwindow_ok : EntOk Try.prog 125 ent_iwindow := by
  intro ds d c h hc; unfold ent_iwindow at h; split at h
  · rename_i n_xs ys_xs n; obtain ⟨rfl, rfl⟩ := pair_inj h
    obtain ⟨⟨h1, h2⟩, hc⟩ := hc; subst h2; generalize (unu ys_xs) = xs at *; subst h1
    exact iwindow_pure xs _ hc
  · cases h
def cbU (us vs : List Nat) (a b : Int) (i : Nat) : Int := a * (nv (us.take i) : Nat) + b * (nv (vs.take i) : Nat)
def cbT (us vs : List Nat) (a b : Int) (i : Nat) : List Nat := dgn i (cbU us vs a b i % 4294967296 ^ i).toNat ++ List.replicate (us.length - i) 0
def cbHyp (us vs : List Nat) (a b : Int) : Prop := ((us.length ≤ 1000000 ∧ vs.length ≤ us.length) ∧ Dig us ∧ Dig vs) ∧ ((-1073741824 < a ∧ a < 1073741824) ∧ -1073741824 < b ∧ b < 1073741824) ∧ ((0 ≤ a ∧ b ≤ 0) ∨ (a ≤ 0 ∧ 0 ≤ b))
theorem cbT_length (us vs : List Nat) (a b : Int) {i : Nat} (h : i ≤ us.length) : (cbT us vs a b i).length = us.length := by simp [cbT, dgn_length]; omega
theorem cb_bound {us vs : List Nat} {a b : Int} {i : Nat} (hu : Dig us) (hv : Dig vs) (hab : (-1073741824 < a ∧ a < 1073741824) ∧ -1073741824 < b ∧ b < 1073741824) (hsg : (0 ≤ a ∧ b ≤ 0) ∨ (a ≤ 0 ∧ 0 ≤ b)) :
    -1073741824 ≤ cbU us vs a b i / 4294967296 ^ i ∧ cbU us vs a b i / 4294967296 ^ i ≤ 1073741824 := by
  have hP : (0 : Int) < 4294967296 ^ i := Int.pow_pos (by decide)
  have bnd : ∀ xs : List Nat, Dig xs → ((nv (xs.take i) : Nat) : Int) ≤ 4294967296 ^ i := fun xs hx => by
    have h1 := nv_lt (hx.take i)
    have h2 := Nat.pow_le_pow_right (show 0 < 4294967296 by decide) (show (xs.take i).length ≤ i by simp; omega)
    have h3 : ((4294967296 ^ i : Nat) : Int) = 4294967296 ^ i := by simp
    rw [← h3]; omega
  have key : ∀ (c d : Int) (X Y : Int), 0 ≤ X → X ≤ 4294967296 ^ i → 0 ≤ Y → Y ≤ 4294967296 ^ i → 0 ≤ c → c < 1073741824 → d ≤ 0 → -1073741824 < d → -1073741824 ≤ (c * X + d * Y) / 4294967296 ^ i ∧ (c * X + d * Y) / 4294967296 ^ i ≤ 1073741824 := by
    intro c d X Y x0 x1 y0 y1 c0 c1 d0 d1
    have m1 := Int.mul_nonneg c0 x0
    have m2 := Int.mul_le_mul_of_nonneg_left x1 c0
    have m3 := Int.mul_le_mul_of_nonneg_right (show c ≤ 1073741824 by omega) (Int.le_of_lt hP)
    have n1 := Int.mul_nonneg (show 0 ≤ -d by omega) y0
    have n2 := Int.mul_le_mul_of_nonneg_left y1 (show 0 ≤ -d by omega)
    have n3 := Int.mul_le_mul_of_nonneg_right (show -d ≤ 1073741824 by omega) (Int.le_of_lt hP)
    simp only [Int.neg_mul] at n1 n2 n3
    refine ⟨?_, ?_⟩
    · rw [Int.le_ediv_iff_mul_le hP]; omega
    · refine Int.le_of_lt_add_one ((Int.ediv_lt_iff_lt_mul hP).2 ?_)
      rw [Int.add_mul]; omega
  have hx := bnd us hu
  have hy := bnd vs hv
  unfold cbU
  rcases hsg with ⟨s1, s2⟩ | ⟨s1, s2⟩
  · exact key a b _ _ (Int.natCast_nonneg _) hx (Int.natCast_nonneg _) hy s1 hab.1.2 s2 hab.2.1
  · rw [Int.add_comm]
    exact key b a _ _ (Int.natCast_nonneg _) hy (Int.natCast_nonneg _) hx s2 hab.2.2 s1 hab.1.1
theorem cb_prod {a : Int} {x : Nat} (ha : -1073741824 < a ∧ a < 1073741824) (hx : x < 4294967296) : (0 ≤ a → 0 ≤ a * (x : Int) ∧ a * (x : Int) ≤ 4611686018427387904) ∧ (a ≤ 0 → -4611686018427387904 ≤ a * (x : Int) ∧ a * (x : Int) ≤ 0) := by
  constructor
  · intro h
    have m1 := Int.mul_nonneg h (Int.natCast_nonneg x)
    have m2 := Int.mul_le_mul_of_nonneg_left (show (x : Int) ≤ 4294967296 by omega) h
    omega
  · intro h
    have m1 := Int.mul_nonneg (show 0 ≤ -a by omega) (Int.natCast_nonneg x)
    have m2 := Int.mul_le_mul_of_nonneg_left (show (x : Int) ≤ 4294967296 by omega) (show 0 ≤ -a by omega)
    simp only [Int.neg_mul] at m1 m2
    omega
theorem cb_step {us vs : List Nat} {a b : Int} {i : Nat} (hu : Dig us) (hv : Dig vs) (hab : (-1073741824 < a ∧ a < 1073741824) ∧ -1073741824 < b ∧ b < 1073741824) (hsg : (0 ≤ a ∧ b ≤ 0) ∨ (a ≤ 0 ∧ 0 ≤ b)) (h : i < us.length) :
    ((-4611686018427387904 ≤ a * ((us.getD i 0 : Nat) : Int) ∧ a * ((us.getD i 0 : Nat) : Int) ≤ 4611686018427387904) ∧ (-4611686018427387904 ≤ b * ((vs.getD i 0 : Nat) : Int) ∧ b * ((vs.getD i 0 : Nat) : Int) ≤ 4611686018427387904) ∧ -1073741824 ≤ cbU us vs a b i / 4294967296 ^ i ∧ cbU us vs a b i / 4294967296 ^ i ≤ 1073741824 ∧ -4611686018427387904 ≤ a * ((us.getD i 0 : Nat) : Int) + b * ((vs.getD i 0 : Nat) : Int) ∧ a * ((us.getD i 0 : Nat) : Int) + b * ((vs.getD i 0 : Nat) : Int) ≤ 4611686018427387904) ∧
    cbU us vs a b (i + 1) / 4294967296 ^ (i + 1) = (a * ((us.getD i 0 : Nat) : Int) + b * ((vs.getD i 0 : Nat) : Int) + cbU us vs a b i / 4294967296 ^ i) / 4294967296 ∧
    (cbT us vs a b i).set i ((a * ((us.getD i 0 : Nat) : Int) + b * ((vs.getD i 0 : Nat) : Int) + cbU us vs a b i / 4294967296 ^ i) % 4294967296).toNat = cbT us vs a b (i + 1) := by
  have hbd := cb_bound (i := i) hu hv hab hsg
  have p1 := cb_prod hab.1 (hu.get i)
  have p2 := cb_prod hab.2 (hv.get i)
  have hP : (0 : Int) < 4294967296 ^ i := Int.pow_pos (by decide)
  have eU : cbU us vs a b (i + 1) = cbU us vs a b i + 4294967296 ^ i * (a * ((us.getD i 0 : Nat) : Int) + b * ((vs.getD i 0 : Nat) : Int)) := by
    unfold cbU
    rw [nv_take_succ', nv_take_succ' vs]
    simp only [Int.natCast_add, Int.natCast_mul, Int.natCast_pow, Int.cast_ofNat_Int]
    generalize (4294967296 : Int) ^ i = P
    grind
  have hdm := Int.mul_ediv_add_emod (cbU us vs a b i) (4294967296 ^ i)
  have hr0 := Int.emod_nonneg (cbU us vs a b i) (show (4294967296 : Int) ^ i ≠ 0 by omega)
  have hr1 := Int.emod_lt_of_pos (cbU us vs a b i) hP
  have ediv : cbU us vs a b (i + 1) / 4294967296 ^ i = a * ((us.getD i 0 : Nat) : Int) + b * ((vs.getD i 0 : Nat) : Int) + cbU us vs a b i / 4294967296 ^ i := by
    rw [eU, Int.add_mul_ediv_left _ _ (by omega)]; omega
  refine ⟨⟨by rcases hsg with ⟨s1, s2⟩ | ⟨s1, s2⟩ <;> omega, by rcases hsg with ⟨s1, s2⟩ | ⟨s1, s2⟩ <;> omega, hbd.1, hbd.2, by rcases hsg with ⟨s1, s2⟩ | ⟨s1, s2⟩ <;> omega⟩, ?_, ?_⟩
  · rw [Int.pow_succ, ← Int.ediv_ediv_of_nonneg (Int.le_of_lt hP), ediv]
  · generalize ht : a * ((us.getD i 0 : Nat) : Int) + b * ((vs.getD i 0 : Nat) : Int) + cbU us vs a b i / 4294967296 ^ i = t at *
    have hR : cbU us vs a b (i + 1) % 4294967296 ^ (i + 1) = cbU us vs a b i % 4294967296 ^ i + 4294967296 ^ i * (t % 4294967296) := by
      have e1 : cbU us vs a b (i + 1) = (cbU us vs a b i % 4294967296 ^ i + 4294967296 ^ i * (t % 4294967296)) + 4294967296 ^ i * 4294967296 * (t / 4294967296) := by
        have e2 : cbU us vs a b (i + 1) = cbU us vs a b i % 4294967296 ^ i + 4294967296 ^ i * t := by
          rw [eU, ← ht, Int.mul_add _ _ (cbU us vs a b i / 4294967296 ^ i)]
          omega
        rw [e2]
        have e3 := Int.mul_ediv_add_emod t 4294967296
        generalize (4294967296 : Int) ^ i = P at *
        generalize cbU us vs a b i % P = R at *
        rw [Int.add_assoc, Int.mul_assoc P, ← Int.mul_add P, show t % 4294967296 + 4294967296 * (t / 4294967296) = t by omega]
      have h0 := Int.emod_nonneg t (show (4294967296 : Int) ≠ 0 by decide)
      have h1 := Int.emod_lt_of_pos t (show (0 : Int) < 4294967296 by decide)
      have m1 := Int.mul_nonneg (Int.le_of_lt hP) h0
      have m2 := Int.mul_le_mul_of_nonneg_left (show t % 4294967296 + 1 ≤ 4294967296 by omega) (Int.le_of_lt hP)
      rw [Int.mul_add, Int.mul_one] at m2
      rw [Int.pow_succ, e1, Int.add_mul_emod_self_left, Int.emod_eq_of_lt (by omega) (by omega)]
    have h0 := Int.emod_nonneg t (show (4294967296 : Int) ≠ 0 by decide)
    have h1 := Int.emod_lt_of_pos t (show (0 : Int) < 4294967296 by decide)
    unfold cbT
    rw [hR]
    obtain ⟨r, er⟩ := Int.eq_ofNat_of_zero_le hr0
    obtain ⟨d, ed⟩ := Int.eq_ofNat_of_zero_le h0
    have hPn : ((4294967296 ^ i : Nat) : Int) = 4294967296 ^ i := by simp
    have hrl : r < 4294967296 ^ i := by
      have : ((r : Nat) : Int) < ((4294967296 ^ i : Nat) : Int) := by rw [hPn, ← er]; exact hr1
      exact Int.ofNat_lt.1 this
    rw [er, ed, ← hPn, ← Int.natCast_mul, ← Int.natCast_add, Int.toNat_natCast, Int.toNat_natCast, Int.toNat_natCast, dgn_succ, dgn_mod, Nat.add_mul_div_left _ _ (Nat.pow_pos (by decide)), Nat.div_eq_of_lt hrl, Nat.zero_add, Nat.mod_eq_of_lt (by omega),
      show us.length - i = us.length - (i + 1) + 1 by omega, List.replicate_succ, List.set_append_right _ _ (by rw [dgn_length]; omega), dgn_length, Nat.sub_self, List.set_cons_zero, List.append_assoc]
    rfl
def lp_combLoop (us vs : List Nat) (a b : Int) : LoopO := loopRule (α := Nat) (β := Unit) [some 0] (fun i => i ≤ us.length) (fun i => [(0, .ro us.length (u32s us)), (1, .ro vs.length (u32s vs)), (2, .v (.int .i64 a)), (3, .v (.int .i64 b)), (9, d_out us.length), (10, .v (.int .i64 (cbU us vs a b i / 4294967296 ^ i))), (17, .v (.int .i64 (us.length : Int))), (18, .v (.int .i64 (i : Int)))]) (fun i => d_blk (cbT us vs a b i)) (0) (fun _ => True) (fun _ => (.exit 0, [(9, d_out us.length)], d_blk (cbT us vs a b us.length)))
theorem combLoop_rule (us vs : List Nat) (a b : Int) (hpre : cbHyp us vs a b) : LRuleP Try.prog Try.f104.ntmps (loopAt ((Try.f104.body).getD .skip) 4) (lp_combLoop us vs a b) := by
  refine lrule_of (α := Nat) (β := Unit) (call := (addPure 96 ent_iat noCalls)) (lp := fun _ => none) (N := 10) T_ok mixed (addPure_ok ent_iat_ok noCalls_ok) (fun i => us.length - i) (by kernel_rfl) (LpAllP.none _) ?_
  intro x hJ
  refine of_eq (B := letI z2 := ((x : Nat) : Int); letI z3 := ((Int.toNat z2) * (1 : Nat)); letI z12 := (List.getD (u32s us) z3 (Inhabited.default)); letI z18 := (unu (u32s vs)); letI z16 := (4294967296 : Int); letI z0 := (IntKind.wrap IntKind.i64 ((IntKind.wrap IntKind.i64 ((IntKind.wrap IntKind.i64 (a * (IntKind.wrap IntKind.i64 (cellInt z12)))) + (IntKind.wrap IntKind.i64 (b * (IntKind.wrap IntKind.i64 (((List.getD z18 (Int.toNat z2) (0 : Nat)) : Nat) : Int)))))) + ((cbU us vs a b x) / (z16 ^ x)))); letI z1 := List.length us; letI z14 := (Exit.exit (0 : Nat)); letI z17 := (Prod.mk (9 : Nat) (d_out z1)); letI z4 := (Prod.mk z14 (Prod.mk [z17] (d_blk (cbT us vs a b z1)))); letI z5 := (Prod.mk (9 : Nat) (D.sl (0 : Nat) (0 : Nat) z1 (Cap.toEnd (1 : Nat)))); letI z15 := ((z1 : Nat) : Int); letI z6 := (Prod.mk (17 : Nat) (D.v (Value.int IntKind.i64 z15))); letI z7 := (Prod.mk (1 : Nat) (D.ro (List.length vs) (u32s vs))); letI z8 := (Prod.mk (2 : Nat) (D.v (Value.int IntKind.i64 a))); letI z9 := (Prod.mk (3 : Nat) (D.v (Value.int IntKind.i64 b))); letI z10 := (((0 : Int) ≤ z2) ∧ (z2 < z15)); letI z11 := (u32s (cbT us vs a b x)); letI z13 := (Prod.mk (0 : Nat) (D.ro z1 (u32s us))); letI z19 := (List (Option Nat)); (True ∧ (pcond (Decidable.decide (z2 < z15)) (True ∧ (True ∧ (True ∧ (True ∧ (True ∧ (z10 ∧ (((z3 < (List.length (u32s us))) ∧ (IsInt IntKind.u32 z12)) ∧ (True ∧ (True ∧ (True ∧ (True ∧ (True ∧ (((((u32s vs) = (u32s z18)) ∧ ((List.length vs) = (List.length z18))) ∧ ((0 : Int) ≤ z2)) ∧ (True ∧ (True ∧ (True ∧ (True ∧ (True ∧ (True ∧ ((Bool.true = Bool.true) ∧ (True ∧ (True ∧ (True ∧ (True ∧ (True ∧ (((0 : Int) ≤ (32 : Int)) ∧ (z10 ∧ ((((1 : Nat) = (1 : Nat)) ∧ ((((0 : Nat) + z3) + (1 : Nat)) ≤ (List.length z11))) ∧ (True ∧ (True ∧ (True ∧ (∃ (y : Nat), (∃ (kp : z19), (((z1 - y) < (z1 - x)) ∧ ((y ≤ z1) ∧ (viewAll kp [z13, z7, z8, z9, z5, (Prod.mk (10 : Nat) (D.v (Value.int IntKind.i64 (Int.fdiv z0 z16)))), z6, (Prod.mk (18 : Nat) (D.v (Value.int IntKind.i64 (IntKind.wrap IntKind.i64 (z2 + (1 : Int))))))] [(Option.some (Blk.mk (41 : Nat) (List.set z11 ((0 : Nat) + z3) (D.v (Value.int IntKind.u32 (IntKind.wrap IntKind.u32 z0)))) Bool.true))] [z13, z7, z8, z9, z17, (Prod.mk (10 : Nat) (D.v (Value.int IntKind.i64 ((cbU us vs a b y) / (z16 ^ y))))), z6, (Prod.mk (18 : Nat) (D.v (Value.int IntKind.i64 ((y : Nat) : Int))))] (d_blk (cbT us vs a b y)))))))))))))))))))))))))))))))))))))) (∃ (r : Unit), (∃ (kp : z19), (True ∧ ((z14 = z14) ∧ (viewAll kp [z5] [(Option.some (Blk.mk (41 : Nat) z11 Bool.true))] (Prod.fst (Prod.snd ((fun (x_1 : Unit) => z4) r))) (Prod.snd (Prod.snd ((fun (x_1 : Unit) => z4) r))))))))))) (by kernel_rfl) ?_
  obtain ⟨⟨⟨hb, hvl⟩, hu, hv⟩, hab, hsg⟩ := hpre
  simp only [true_and, and_true, and_self, IsInt_lit, IsBool_lit, IsStr_lit, Bool.not_eq_true', Bool.not_eq_false', Bool.not_true, Bool.not_false, Int.reduceLE, Int.reduceLT, Int.reduceNeg, Nat.le_refl, Int.le_refl, Nat.reduceLT, Nat.reduceLeDiff, Nat.reduceEqDiff, D.v.injEq, D.tup.injEq, D.agg.injEq, D.ro.injEq, List.cons.injEq, Value.int.injEq, Value.bool.injEq, pcond_true, pcond_false, NamelessL, Nameless, Nat.reduceMul, Nat.reduceAdd, Nat.zero_add, Int.toNat_natCast, unu_u32s]
  refine pcond_intro (fun h => ?_) (fun h => ⟨(), [some 0], ?_⟩)
  · simp only [decide_eq_true_eq] at h
    have h : x < us.length := by omega
    obtain ⟨c1, c2, c3⟩ := cb_step hu hv hab hsg h
    have d0 := hu.get x
    have d1 := hv.get x
    have hlen := cbT_length us vs a b (show x ≤ us.length by omega)
    have w1 : IntKind.i64.wrap ((x : Int) + 1) = ((x + 1 : Nat) : Int) := by rw [wrap_i64_of (by omega) (by omega)]; omega
    obtain ⟨⟨k1, k2⟩, ⟨k3, k4⟩, k5, k6, k7, k8⟩ := c1
    have ht : IntKind.i64.wrap (IntKind.i64.wrap (IntKind.i64.wrap (a * IntKind.i64.wrap ((us.getD x 0 : Nat) : Int)) + IntKind.i64.wrap (b * IntKind.i64.wrap ((vs.getD x 0 : Nat) : Int))) + cbU us vs a b x / 4294967296 ^ x) = a * ((us.getD x 0 : Nat) : Int) + b * ((vs.getD x 0 : Nat) : Int) + cbU us vs a b x / 4294967296 ^ x := by
      rw [wrap_i64_of (n := ((us.getD x 0 : Nat) : Int)) (by omega) (by omega), wrap_i64_of (n := ((vs.getD x 0 : Nat) : Int)) (by omega) (by omega), wrap_i64_of (n := a * ((us.getD x 0 : Nat) : Int)) (by omega) (by omega), wrap_i64_of (n := b * ((vs.getD x 0 : Nat) : Int)) (by omega) (by omega), wrap_i64_of (n := a * ((us.getD x 0 : Nat) : Int) + b * ((vs.getD x 0 : Nat) : Int)) (by omega) (by omega), wrap_i64_of (by omega) (by omega)]
    simp only [w1, Nat.mul_one, u32s_cell, u32s_length, hlen, u32s_isInt us x h, and_true, ht]
    have e1 : IntKind.u32.wrap (a * ((us.getD x 0 : Nat) : Int) + b * ((vs.getD x 0 : Nat) : Int) + cbU us vs a b x / 4294967296 ^ x) = (((a * ((us.getD x 0 : Nat) : Int) + b * ((vs.getD x 0 : Nat) : Int) + cbU us vs a b x / 4294967296 ^ x) % 4294967296).toNat : Int) := by
      rw [wrap_u32]; omega
    rw [e1, u32s_put, c3, Int.fdiv_eq_ediv_of_nonneg _ (by decide), ← c2]
    refine ⟨⟨by omega, by omega⟩, h, by omega, ⟨by omega, by omega⟩, by omega, x + 1, [some 0], by omega, by omega, ?_⟩
    refine of_eq (B := letI z3 := (x + (1 : Nat)); letI z0 := (D.v (Value.int IntKind.i64 ((cbU us vs a b z3) / ((4294967296 : Int) ^ z3)))); letI z10 := (u32s (cbT us vs a b z3)); letI z1 := (Option.some (Blk.mk (41 : Nat) z10 Bool.true)); letI z2 := List.length us; letI z4 := (D.sl (0 : Nat) (0 : Nat) z2 (Cap.toEnd (1 : Nat))); letI z5 := (D.v (Value.int IntKind.i64 ((z2 : Nat) : Int))); letI z6 := (D.v (Value.int IntKind.i64 ((z3 : Nat) : Int))); letI z7 := (D.ro (List.length vs) (u32s vs)); letI z8 := (D.v (Value.int IntKind.i64 a)); letI z9 := (D.v (Value.int IntKind.i64 b)); letI z11 := ([] : List (Option Blk)); letI z12 := (D.ro z2 (u32s us)); ((Bool.true = Bool.true) ∧ ((((z1 = z1) ∧ (NamelessL z10)) ∧ (z11 = z11)) ∧ ((True ∧ (z12 = z12)) ∧ ((True ∧ (z7 = z7)) ∧ ((True ∧ (z8 = z8)) ∧ ((True ∧ (z9 = z9)) ∧ ((True ∧ (z4 = z4)) ∧ ((True ∧ (z0 = z0)) ∧ ((True ∧ (z5 = z5)) ∧ ((True ∧ (z6 = z6)) ∧ True))))))))))) (by kernel_rfl) ?_
    simp [u32s_nameless]
  · simp only [decide_eq_false_iff_not] at h
    have h : x = us.length := by omega
    subst h
    refine of_eq (B := letI z2 := (u32s (cbT us vs a b (List.length us))); letI z0 := (Option.some (Blk.mk (41 : Nat) z2 Bool.true)); letI z1 := (D.sl (0 : Nat) (0 : Nat) (List.length us) (Cap.toEnd (1 : Nat))); letI z3 := ([] : List (Option Blk)); ((Bool.true = Bool.true) ∧ ((((z0 = z0) ∧ (NamelessL z2)) ∧ (z3 = z3)) ∧ ((True ∧ (z1 = z1)) ∧ True)))) (by kernel_rfl) ?_
    simp [u32s_nameless]
theorem cb_zero (us vs : List Nat) (a b : Int) : cbU us vs a b 0 = 0 ∧ cbT us vs a b 0 = List.replicate us.length 0 := by simp [cbU, cbT, nv, dgn]
theorem cb_end {us vs : List Nat} {a b : Int} (h : cbHyp us vs a b) (h0 : 0 ≤ a * (nv us : Nat) + b * (nv vs : Nat)) (h1 : a * (nv us : Nat) + b * (nv vs : Nat) ≤ (nv us : Nat)) : trimL (cbT us vs a b us.length) = dg (a * (nv us : Nat) + b * (nv vs : Nat)).toNat := by
  obtain ⟨⟨⟨hb, hvl⟩, hu, hv⟩, hab, hsg⟩ := h
  have e : cbU us vs a b us.length = a * (nv us : Nat) + b * (nv vs : Nat) := by
    unfold cbU
    rw [List.take_length, List.take_of_length_le hvl]
  have hlt := nv_lt hu
  have hP : ((4294967296 ^ us.length : Nat) : Int) = 4294967296 ^ us.length := by simp
  unfold cbT
  rw [e, ← hP]
  generalize a * (nv us : Nat) + b * (nv vs : Nat) = W at *
  obtain ⟨w, rfl⟩ := Int.eq_ofNat_of_zero_le h0
  have hw : w < 4294967296 ^ us.length := by omega
  rw [Int.emod_eq_of_lt (by omega) (by omega), Nat.sub_self, List.replicate_zero, List.append_nil]
  exact trimL_dgn (by simpa using hw)
theorem icombine_pure (us vs : List Nat) (a b : Int) (hpre : cbHyp us vs a b ∧ 0 ≤ a * (nv us : Nat) + b * (nv vs : Nat) ∧ a * (nv us : Nat) + b * (nv vs : Nat) ≤ (nv us : Nat)) : PureJ Try.prog 104 [.ro us.length (u32s us), .ro vs.length (u32s vs), .v (.int .i64 a), .v (.int .i64 b)] (.ro (dg (a * (nv us : Nat) + b * (nv vs : Nat)).toNat).length (u32s (dg (a * (nv us : Nat) + b * (nv vs : Nat)).toNat))) := by
  refine pureJ_of_vcpN (call := (addPure 89 ent_itrim noCalls)) (lp := fun k => bif Nat.beq k 4 then some (lp_combLoop us vs a b) else none) (N := 10) T_ok mixed (addPure_ok ent_itrim_ok noCalls_ok) Try.func104 rfl (by decide) (by kernel_rfl) (by kernel_rfl) (of_eq (B := LRuleP Try.prog Try.f104.ntmps (loopAt ((Try.f104.body).getD .skip) 4) (lp_combLoop us vs a b) ∧ True) (by kernel_rfl) ⟨combLoop_rule us vs a b hpre.1, trivial⟩) (by first | trivial | (simp only [NamelessL, Nameless, and_self, and_true, true_and]; done) | (simp [NamelessL, Nameless, u32s_nameless, namelessL_ints]; done)) (by first | trivial | (simp only [NamelessL, Nameless, and_self, and_true, true_and]; done) | (simp [NamelessL, Nameless, u32s_nameless, namelessL_ints]; done)) ?_
  refine of_eq (B := letI z2 := List.length us; letI z6 := (u32s (cbT us vs a b z2)); letI z0 := (List.take (z2 * (1 : Nat)) (List.drop (0 : Nat) z6)); letI z1 := ((z2 : Nat) : Int); letI z3 := (dg (Int.toNat ((a * (((nv us) : Nat) : Int)) + (b * (((nv vs) : Nat) : Int))))); letI z4 := (D.v (Value.int IntKind.i64 (0 : Int))); letI z5 := (List.replicate (Int.toNat z1) (D.v (Value.int IntKind.u32 (0 : Int)))); letI z7 := (D.ro (List.length vs) (u32s vs)); letI z8 := (D.v (Value.int IntKind.i64 z1)); letI z9 := (D.v (Value.int IntKind.i64 a)); letI z10 := (D.v (Value.int IntKind.i64 b)); letI z11 := ([] : List (Option Blk)); letI z12 := (List.length (unu z0)); letI z13 := (Cap.toEnd (1 : Nat)); letI z14 := (D.ro z2 (u32s us)); (True ∧ (True ∧ (True ∧ ((((0 : Int) ≤ z1) ∧ ((z1 ≤ z1) ∧ ((((4 : Int) * z1) ≤ (281474976710656 : Int)) ∧ (z1 ≤ (9223372036854775807 : Int))))) ∧ (True ∧ (True ∧ (True ∧ (True ∧ (True ∧ (((0 : Nat) ≤ z2) ∧ (((Bool.true = Bool.true) ∧ (((((Option.some (Blk.mk (41 : Nat) (u32s (cbT us vs a b (0 : Nat))) Bool.true)) = (Option.some (Blk.mk (41 : Nat) z5 Bool.true))) ∧ (NamelessL z5)) ∧ (z11 = z11)) ∧ ((True ∧ (z14 = z14)) ∧ ((True ∧ (z7 = z7)) ∧ ((True ∧ (z9 = z9)) ∧ ((True ∧ (z10 = z10)) ∧ ((True ∧ ((D.sl (0 : Nat) (0 : Nat) (Int.toNat z1) z13) = (D.sl (0 : Nat) (0 : Nat) z2 z13))) ∧ ((True ∧ (z4 = (D.v (Value.int IntKind.i64 ((cbU us vs a b (0 : Nat)) / (1 : Int)))))) ∧ ((True ∧ (z8 = z8)) ∧ ((True ∧ (z4 = z4)) ∧ True)))))))))) ∧ (Unit → (True → (True ∧ (((((NamelessL z6) ∧ (((0 : Nat) < (1 : Nat)) ∧ (((0 : Nat) + (z2 * (1 : Nat))) ≤ (List.length z6)))) ∧ True) ∧ (((z0 = (u32s (unu z0))) ∧ (z2 = z12)) ∧ (z12 ≤ (1000000 : Nat)))) ∧ (True ∧ (True ∧ (True ∧ ((D.ro (List.length (trimL (unu z0))) (u32s (trimL (unu z0)))) = (D.ro (List.length z3) (u32s z3)))))))))))))))))))))) (by kernel_rfl) ?_
  obtain ⟨hc, h0, h1⟩ := hpre
  have hE := cb_end hc h0 h1
  obtain ⟨z1, z2⟩ := cb_zero us vs a b
  have hlen := cbT_length us vs a b (Nat.le_refl us.length)
  have hb := hc.1.1.1
  have hd : List.take us.length (u32s (cbT us vs a b us.length)) = u32s (cbT us vs a b us.length) := List.take_of_length_le (by simp [u32s_length, hlen])
  simp only [true_and, and_true, and_self, IsInt_lit, IsBool_lit, IsStr_lit, Bool.not_eq_true', Bool.not_eq_false', Bool.not_true, Bool.not_false, Int.reduceLE, Int.reduceLT, Int.reduceNeg, Nat.le_refl, Int.le_refl, Nat.reduceLT, Nat.reduceLeDiff, Nat.reduceEqDiff, D.v.injEq, D.tup.injEq, D.agg.injEq, D.ro.injEq, List.cons.injEq, Value.int.injEq, Value.bool.injEq, pcond_true, pcond_false, NamelessL, Nameless, Nat.reduceMul, Nat.reduceAdd, Nat.zero_add, Int.toNat_natCast, z1, z2, Nat.mul_one, List.drop_zero, hd, unu_u32s, hE, Int.toNat_natCast, u32s_length, hlen, u32s_nameless]
  have e0 : List.replicate us.length (D.v (Value.int IntKind.u32 0)) = u32s (List.replicate us.length 0) := u32s_replicate _ 0
  rw [e0]
  refine ⟨by omega, by omega, ?_⟩
  simp [u32s_nameless, hb]
def ent_icombine : Ent := fun ds => match ds with
  | [.ro n_us ys_us, .ro n_vs ys_vs, .v (.int .i64 a), .v (.int .i64 b)] => some (.ro (dg (a * (nv (unu ys_us) : Nat) + b * (nv (unu ys_vs) : Nat)).toNat).length (u32s (dg (a * (nv (unu ys_us) : Nat) + b * (nv (unu ys_vs) : Nat)).toNat)), (ys_vs = u32s (unu ys_vs) ∧ n_vs = (unu ys_vs).length) ∧ (ys_us = u32s (unu ys_us) ∧ n_us = (unu ys_us).length) ∧ cbHyp (unu ys_us) (unu ys_vs) a b ∧ 0 ≤ a * (nv (unu ys_us) : Nat) + b * (nv (unu ys_vs) : Nat) ∧ a * (nv (unu ys_us) : Nat) + b * (nv (unu ys_vs) : Nat) ≤ (nv (unu ys_us) : Nat))
  | _ => none
theorem ent_icombine_ok : EntOk Try.prog 104 ent_icombine := by
  intro ds d c h hc; unfold ent_icombine at h; split at h
  · rename_i n_us ys_us n_vs ys_vs a b; obtain ⟨rfl, rfl⟩ := pair_inj h
    obtain ⟨⟨h1, h2⟩, hc⟩ := hc; subst h2; generalize (unu ys_vs) = vs at *; subst h1
    obtain ⟨⟨h1, h2⟩, hc⟩ := hc; subst h2; generalize (unu ys_us) = us at *; subst h1
    exact icombine_pure us vs _ _ hc
  · cases h
end Go.Proofs.Ythnhfkpihbjddaa
end
