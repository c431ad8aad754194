/- The specification's integers: negation, sums, differences as values. -/
import Derived.Test.YthnhfkpihbjddaaRj
namespace Go.Proofs.Ythnhfkpihbjddaa
open Go.VD
set_option linter.unusedVariables false
set_option linter.unusedSimpArgs false
set_option maxRecDepth 100000

theorem madeN_of {l : List Nat} {v : Nat} (h : trimL l = dg v) (b : Bool) : madeN b l = (b && decide (v ≠ 0)) := by
  have := (madeN_dg b v).1
  unfold madeN at *
  rw [h]
  rwa [(madeN_dg b v).2] at this
theorem trimL_plus {xs ys : List Nat} (hx : Dig xs) (hy : Dig ys) : trimL (plusL xs ys) = dg (nv xs + nv ys) := by
  unfold plusL
  apply trimL_dgn
  unfold plusN
  split
  · rename_i h
    rw [Nat.add_zero]
    rcases Nat.div_eq_zero_iff.1 h with h | h
    · have := pow_pos32 (plusM xs ys); omega
    · exact h
  · exact plus_lt hx hy
theorem plusL_len (xs ys : List Nat) : (plusL xs ys).length ≤ plusM xs ys + 1 := by
  unfold plusL plusN
  rw [dgn_length]
  split <;> omega
theorem dg_len_mono {a b : Nat} (h : a ≤ b) : (dg a).length ≤ (dg b).length :=
  dg_length_le (Nat.lt_of_le_of_lt h (lt_of_dg_length (Nat.le_refl _)))
theorem good_nat {n : Bool} {xs : List Nat} (h : Good n xs) : xs = dg (nv xs) := h.1
theorem neg_iv {n : Bool} {xs : List Nat} (g : Good n xs) : madeN (!n) xs = decide (-iv n xs < 0) ∧ trimL xs = ofL (-iv n xs) := by
  have e : trimL xs = dg (nv xs) := trimL_dig (good_dig g)
  refine ⟨?_, ?_⟩
  · rw [madeN_of e]
    have := g.2
    unfold iv
    cases n <;> rw [Bool.eq_iff_iff] <;> simp <;> omega
  · rw [e]
    unfold ofL iv
    congr 1
    cases n <;> simp
theorem add_same {xn yn : Bool} {xs ys : List Nat} (h : xn = yn) (hx : Dig xs) (hy : Dig ys) : madeN xn (plusL xs ys) = decide (iv xn xs + iv yn ys < 0) ∧ trimL (plusL xs ys) = ofL (iv xn xs + iv yn ys) := by
  subst h
  have e := trimL_plus hx hy
  refine ⟨?_, ?_⟩
  · rw [madeN_of e]
    unfold iv
    cases xn <;> rw [Bool.eq_iff_iff] <;> simp <;> omega
  · rw [e]
    unfold ofL iv
    congr 1
    cases xn <;> simp <;> omega
theorem add_diff {xn yn : Bool} {xs ys : List Nat} (h : ¬ xn = yn) (hle : nv ys ≤ nv xs) : madeN xn (dg (nv xs - nv ys)) = decide (iv xn xs + iv yn ys < 0) ∧ trimL (dg (nv xs - nv ys)) = ofL (iv xn xs + iv yn ys) := by
  have e := madeN_dg xn (nv xs - nv ys)
  rw [e.1, e.2]
  unfold ofL iv
  refine ⟨?_, ?_⟩
  · cases xn <;> cases yn <;> simp at h <;> rw [Bool.eq_iff_iff] <;> simp <;> omega
  · congr 1
    cases xn <;> cases yn <;> simp at h <;> simp <;> omega
theorem Add_pure (xn : Bool) (xs : List Nat) (yn : Bool) (ys : List Nat) (hpre : (Good xn xs ∧ xs.length ≤ 200) ∧ Good yn ys ∧ ys.length ≤ 200) : PureJ Try.prog 30 [.agg [.v (.bool xn), .ro xs.length (u32s xs)], .agg [.v (.bool yn), .ro ys.length (u32s ys)]] (.tup [d_int (decide (iv xn xs + iv yn ys < 0)) (ofL (iv xn xs + iv yn ys)), .v (.int .i64 0)]) := by
  refine pureJ_of_vcx (call := (addPure 21 ent_Valid (addPure 61 ent_cmpr (addPure 57 ent_plus (addPure 58 ent_minus (addPure 60 ent_made (addPure 59 ent_result noCalls))))))) (lp := fun _ => none) (N := 10) T_ok mixed (addPure_ok ent_Valid_ok (addPure_ok ent_cmpr_ok (addPure_ok ent_plus_ok (addPure_ok ent_minus_ok (addPure_ok ent_made_ok (addPure_ok ent_result_ok noCalls_ok)))))) Try.func30 rfl (by decide) (by kernel_rfl) (by kernel_rfl) (LpAll.none _) (by first | trivial | (simp only [NamelessL, Nameless, and_self, and_true, true_and]; done) | (simp [NamelessL, Nameless, u32s_nameless, namelessL_ints, d_int]; done)) (by first | trivial | (simp only [NamelessL, Nameless, and_self, and_true, true_and]; done) | (simp [NamelessL, Nameless, u32s_nameless, namelessL_ints, d_int]; done)) ?_
  refine of_eq (B := (True ∧ (True ∧ (True ∧ (True ∧ (((2 : Nat) ≤ (2 : Nat)) ∧ (((((u32s xs) = (u32s (unu (u32s xs)))) ∧ ((List.length xs) = (List.length (unu (u32s xs))))) ∧ ((List.length (unu (u32s xs))) ≤ (1000000000000 : Nat))) ∧ (True ∧ (True ∧ (pcond (!(validL xn (unu (u32s xs)))) (True ∧ (True ∧ ((((2 : Nat) = (2 : Nat)) ∧ ((2 : Nat) ≤ (2 : Nat))) ∧ (True ∧ ((((2 : Nat) ≤ (2 : Nat)) ∧ True) ∧ (((True ∧ (True ∧ True)) ∧ (True ∧ True)) ∧ ((D.tup [(D.agg [(D.v (Value.bool Bool.false)), (D.v (Value.slice (Option.none) (0 : Nat) (0 : Nat)))]), (D.v (Value.int IntKind.i64 (1 : Int)))]) = (D.tup [(D.agg [(D.v (Value.bool (Decidable.decide (((iv xn xs) + (iv yn ys)) < (0 : Int))))), (D.ro (List.length (ofL ((iv xn xs) + (iv yn ys)))) (u32s (ofL ((iv xn xs) + (iv yn ys)))))]), (D.v (Value.int IntKind.i64 (0 : Int)))])))))))) (((2 : Nat) ≤ (2 : Nat)) ∧ (((((u32s ys) = (u32s (unu (u32s ys)))) ∧ ((List.length ys) = (List.length (unu (u32s ys))))) ∧ ((List.length (unu (u32s ys))) ≤ (1000000000000 : Nat))) ∧ (True ∧ (True ∧ (pcond (!(validL yn (unu (u32s ys)))) (True ∧ ((((2 : Nat) = (2 : Nat)) ∧ ((2 : Nat) ≤ (2 : Nat))) ∧ (True ∧ ((((2 : Nat) ≤ (2 : Nat)) ∧ True) ∧ (((True ∧ (True ∧ True)) ∧ (True ∧ True)) ∧ ((D.tup [(D.agg [(D.v (Value.bool Bool.false)), (D.v (Value.slice (Option.none) (0 : Nat) (0 : Nat)))]), (D.v (Value.int IntKind.i64 (1 : Int)))]) = (D.tup [(D.agg [(D.v (Value.bool (Decidable.decide (((iv xn xs) + (iv yn ys)) < (0 : Int))))), (D.ro (List.length (ofL ((iv xn xs) + (iv yn ys)))) (u32s (ofL ((iv xn xs) + (iv yn ys)))))]), (D.v (Value.int IntKind.i64 (0 : Int)))]))))))) (True ∧ ((((0 : Nat) < (2 : Nat)) ∧ (IsBool (D.v (Value.bool xn)))) ∧ (True ∧ ((((0 : Nat) < (2 : Nat)) ∧ (IsBool (D.v (Value.bool yn)))) ∧ (True ∧ (pcond (xn == yn) (True ∧ ((((0 : Nat) < (2 : Nat)) ∧ (IsBool (D.v (Value.bool xn)))) ∧ (True ∧ (((1 : Nat) < (2 : Nat)) ∧ (True ∧ (((1 : Nat) < (2 : Nat)) ∧ (((((u32s ys) = (u32s (unu (u32s ys)))) ∧ ((List.length ys) = (List.length (unu (u32s ys))))) ∧ ((((u32s xs) = (u32s (unu (u32s xs)))) ∧ ((List.length xs) = (List.length (unu (u32s xs))))) ∧ (((List.length (unu (u32s xs))) ≤ (400000 : Nat)) ∧ (((List.length (unu (u32s ys))) ≤ (400000 : Nat)) ∧ ((Dig (unu (u32s xs))) ∧ (Dig (unu (u32s ys)))))))) ∧ (((((u32s (plusL (unu (u32s xs)) (unu (u32s ys)))) = (u32s (unu (u32s (plusL (unu (u32s xs)) (unu (u32s ys))))))) ∧ ((List.length (plusL (unu (u32s xs)) (unu (u32s ys)))) = (List.length (unu (u32s (plusL (unu (u32s xs)) (unu (u32s ys)))))))) ∧ ((List.length (unu (u32s (plusL (unu (u32s xs)) (unu (u32s ys)))))) ≤ (1000000 : Nat))) ∧ (((((u32s (trimL (unu (u32s (plusL (unu (u32s xs)) (unu (u32s ys))))))) = (u32s (unu (u32s (trimL (unu (u32s (plusL (unu (u32s xs)) (unu (u32s ys)))))))))) ∧ ((List.length (trimL (unu (u32s (plusL (unu (u32s xs)) (unu (u32s ys))))))) = (List.length (unu (u32s (trimL (unu (u32s (plusL (unu (u32s xs)) (unu (u32s ys))))))))))) ∧ ((List.length (unu (u32s (trimL (unu (u32s (plusL (unu (u32s xs)) (unu (u32s ys))))))))) ≤ (400 : Nat))) ∧ (True ∧ (True ∧ ((((2 : Nat) = (2 : Nat)) ∧ ((2 : Nat) ≤ (2 : Nat))) ∧ (True ∧ ((Bool.true = Bool.true) ∧ ((((2 : Nat) ≤ (2 : Nat)) ∧ True) ∧ (((True ∧ (True ∧ True)) ∧ (True ∧ True)) ∧ ((D.tup [(D.agg [(D.v (Value.bool (madeN xn (unu (u32s (plusL (unu (u32s xs)) (unu (u32s ys)))))))), (D.ro (List.length (unu (u32s (trimL (unu (u32s (plusL (unu (u32s xs)) (unu (u32s ys))))))))) (u32s (unu (u32s (trimL (unu (u32s (plusL (unu (u32s xs)) (unu (u32s ys))))))))))]), (D.v (Value.int IntKind.i64 (0 : Int)))]) = (D.tup [(D.agg [(D.v (Value.bool (Decidable.decide (((iv xn xs) + (iv yn ys)) < (0 : Int))))), (D.ro (List.length (ofL ((iv xn xs) + (iv yn ys)))) (u32s (ofL ((iv xn xs) + (iv yn ys)))))]), (D.v (Value.int IntKind.i64 (0 : Int)))])))))))))))))))))) (True ∧ (((1 : Nat) < (2 : Nat)) ∧ (True ∧ (((1 : Nat) < (2 : Nat)) ∧ (((((u32s ys) = (u32s (unu (u32s ys)))) ∧ ((List.length ys) = (List.length (unu (u32s ys))))) ∧ ((((u32s xs) = (u32s (unu (u32s xs)))) ∧ ((List.length xs) = (List.length (unu (u32s xs))))) ∧ ((List.length (unu (u32s xs))) ≤ (1000000000000 : Nat)))) ∧ (True ∧ (pcond (Decidable.decide ((0 : Int) ≤ (cmpL (unu (u32s xs)) (unu (u32s ys))))) (True ∧ ((((0 : Nat) < (2 : Nat)) ∧ (IsBool (D.v (Value.bool xn)))) ∧ (True ∧ (((1 : Nat) < (2 : Nat)) ∧ (True ∧ (((1 : Nat) < (2 : Nat)) ∧ (((((u32s ys) = (u32s (unu (u32s ys)))) ∧ ((List.length ys) = (List.length (unu (u32s ys))))) ∧ ((((u32s xs) = (u32s (unu (u32s xs)))) ∧ ((List.length xs) = (List.length (unu (u32s xs))))) ∧ ((((List.length (unu (u32s xs))) ≤ (400000 : Nat)) ∧ (((List.length (unu (u32s ys))) ≤ (List.length (unu (u32s xs)))) ∧ ((Dig (unu (u32s xs))) ∧ (Dig (unu (u32s ys)))))) ∧ ((nv (unu (u32s ys))) ≤ (nv (unu (u32s xs))))))) ∧ (((((u32s (dg ((nv (unu (u32s xs))) - (nv (unu (u32s ys)))))) = (u32s (unu (u32s (dg ((nv (unu (u32s xs))) - (nv (unu (u32s ys))))))))) ∧ ((List.length (dg ((nv (unu (u32s xs))) - (nv (unu (u32s ys)))))) = (List.length (unu (u32s (dg ((nv (unu (u32s xs))) - (nv (unu (u32s ys)))))))))) ∧ ((List.length (unu (u32s (dg ((nv (unu (u32s xs))) - (nv (unu (u32s ys)))))))) ≤ (1000000 : Nat))) ∧ (((((u32s (trimL (unu (u32s (dg ((nv (unu (u32s xs))) - (nv (unu (u32s ys))))))))) = (u32s (unu (u32s (trimL (unu (u32s (dg ((nv (unu (u32s xs))) - (nv (unu (u32s ys)))))))))))) ∧ ((List.length (trimL (unu (u32s (dg ((nv (unu (u32s xs))) - (nv (unu (u32s ys))))))))) = (List.length (unu (u32s (trimL (unu (u32s (dg ((nv (unu (u32s xs))) - (nv (unu (u32s ys))))))))))))) ∧ ((List.length (unu (u32s (trimL (unu (u32s (dg ((nv (unu (u32s xs))) - (nv (unu (u32s ys))))))))))) ≤ (400 : Nat))) ∧ (True ∧ (True ∧ ((((2 : Nat) = (2 : Nat)) ∧ ((2 : Nat) ≤ (2 : Nat))) ∧ (True ∧ ((Bool.true = Bool.true) ∧ ((((2 : Nat) ≤ (2 : Nat)) ∧ True) ∧ (((True ∧ (True ∧ True)) ∧ (True ∧ True)) ∧ ((D.tup [(D.agg [(D.v (Value.bool (madeN xn (unu (u32s (dg ((nv (unu (u32s xs))) - (nv (unu (u32s ys)))))))))), (D.ro (List.length (unu (u32s (trimL (unu (u32s (dg ((nv (unu (u32s xs))) - (nv (unu (u32s ys))))))))))) (u32s (unu (u32s (trimL (unu (u32s (dg ((nv (unu (u32s xs))) - (nv (unu (u32s ys))))))))))))]), (D.v (Value.int IntKind.i64 (0 : Int)))]) = (D.tup [(D.agg [(D.v (Value.bool (Decidable.decide (((iv xn xs) + (iv yn ys)) < (0 : Int))))), (D.ro (List.length (ofL ((iv xn xs) + (iv yn ys)))) (u32s (ofL ((iv xn xs) + (iv yn ys)))))]), (D.v (Value.int IntKind.i64 (0 : Int)))])))))))))))))))))) (True ∧ ((((0 : Nat) < (2 : Nat)) ∧ (IsBool (D.v (Value.bool yn)))) ∧ (True ∧ (((1 : Nat) < (2 : Nat)) ∧ (True ∧ (((1 : Nat) < (2 : Nat)) ∧ (((((u32s xs) = (u32s (unu (u32s xs)))) ∧ ((List.length xs) = (List.length (unu (u32s xs))))) ∧ ((((u32s ys) = (u32s (unu (u32s ys)))) ∧ ((List.length ys) = (List.length (unu (u32s ys))))) ∧ ((((List.length (unu (u32s ys))) ≤ (400000 : Nat)) ∧ (((List.length (unu (u32s xs))) ≤ (List.length (unu (u32s ys)))) ∧ ((Dig (unu (u32s ys))) ∧ (Dig (unu (u32s xs)))))) ∧ ((nv (unu (u32s xs))) ≤ (nv (unu (u32s ys))))))) ∧ (((((u32s (dg ((nv (unu (u32s ys))) - (nv (unu (u32s xs)))))) = (u32s (unu (u32s (dg ((nv (unu (u32s ys))) - (nv (unu (u32s xs))))))))) ∧ ((List.length (dg ((nv (unu (u32s ys))) - (nv (unu (u32s xs)))))) = (List.length (unu (u32s (dg ((nv (unu (u32s ys))) - (nv (unu (u32s xs)))))))))) ∧ ((List.length (unu (u32s (dg ((nv (unu (u32s ys))) - (nv (unu (u32s xs)))))))) ≤ (1000000 : Nat))) ∧ (((((u32s (trimL (unu (u32s (dg ((nv (unu (u32s ys))) - (nv (unu (u32s xs))))))))) = (u32s (unu (u32s (trimL (unu (u32s (dg ((nv (unu (u32s ys))) - (nv (unu (u32s xs)))))))))))) ∧ ((List.length (trimL (unu (u32s (dg ((nv (unu (u32s ys))) - (nv (unu (u32s xs))))))))) = (List.length (unu (u32s (trimL (unu (u32s (dg ((nv (unu (u32s ys))) - (nv (unu (u32s xs))))))))))))) ∧ ((List.length (unu (u32s (trimL (unu (u32s (dg ((nv (unu (u32s ys))) - (nv (unu (u32s xs))))))))))) ≤ (400 : Nat))) ∧ (True ∧ (True ∧ ((((2 : Nat) = (2 : Nat)) ∧ ((2 : Nat) ≤ (2 : Nat))) ∧ (True ∧ ((Bool.true = Bool.true) ∧ ((((2 : Nat) ≤ (2 : Nat)) ∧ True) ∧ (((True ∧ (True ∧ True)) ∧ (True ∧ True)) ∧ ((D.tup [(D.agg [(D.v (Value.bool (madeN yn (unu (u32s (dg ((nv (unu (u32s ys))) - (nv (unu (u32s xs)))))))))), (D.ro (List.length (unu (u32s (trimL (unu (u32s (dg ((nv (unu (u32s ys))) - (nv (unu (u32s xs))))))))))) (u32s (unu (u32s (trimL (unu (u32s (dg ((nv (unu (u32s ys))) - (nv (unu (u32s xs))))))))))))]), (D.v (Value.int IntKind.i64 (0 : Int)))]) = (D.tup [(D.agg [(D.v (Value.bool (Decidable.decide (((iv xn xs) + (iv yn ys)) < (0 : Int))))), (D.ro (List.length (ofL ((iv xn xs) + (iv yn ys)))) (u32s (ofL ((iv xn xs) + (iv yn ys)))))]), (D.v (Value.int IntKind.i64 (0 : Int)))])))))))))))))))))))))))))))))))))))))))))))))) (by kernel_rfl) ?_
  simp only [true_and, and_true, and_self, IsInt_lit, IsBool_lit, IsStr_lit, Bool.not_eq_true', Bool.not_eq_false', Bool.not_true, Bool.not_false, Int.reduceLE, Int.reduceLT, Int.reduceNeg, Nat.le_refl, Int.le_refl, Nat.reduceLT, Nat.reduceLeDiff, Nat.reduceEqDiff, D.v.injEq, D.tup.injEq, D.agg.injEq, D.ro.injEq, List.cons.injEq, Value.int.injEq, Value.bool.injEq, pcond_true, pcond_false, NamelessL, Nameless, Nat.reduceMul, Nat.reduceAdd, Nat.zero_add, Int.toNat_natCast, unu_u32s]
  obtain ⟨⟨gx, lx⟩, gy, ly⟩ := hpre
  have dx := good_dig gx
  have dy := good_dig gy
  rw [good_valid gx (by omega), good_valid gy (by omega)]
  simp only [Bool.not_true, pcond_false]
  have hm : plusM xs ys ≤ 200 := by unfold plusM; omega
  have hpl := plusL_len xs ys
  have hc : cmpL xs ys = cmpN (nv xs) (nv ys) := by rw [gx.1, gy.1, cmpL_dg, ← gx.1, ← gy.1]
  refine ⟨by omega, by omega, pcond_intro (fun h => ?_) (fun h => ⟨by omega, pcond_intro (fun h2 => ?_) (fun h2 => ?_)⟩)⟩
  · obtain ⟨e1, e2⟩ := add_same (by simpa using h) dx dy
    have hlen : (trimL (plusL xs ys)).length ≤ (plusL xs ys).length := by rw [trimL_length]; exact tn_le _ _
    rw [e1]
    rw [e2] at hlen ⊢
    exact ⟨⟨by omega, by omega, dx, dy⟩, by omega, by omega, rfl, rfl, rfl⟩
  · simp only [decide_eq_true_eq, hc] at h2
    have hle : nv ys ≤ nv xs := by unfold cmpN at h2; split at h2 <;> omega
    have hlm := dg_len_mono hle
    rw [← gx.1, ← gy.1] at hlm
    have hl2 := dg_len_mono (show nv xs - nv ys ≤ nv xs by omega)
    rw [← gx.1] at hl2
    obtain ⟨e1, e2⟩ := add_diff (by simpa using h) hle
    have hl3 : (trimL (dg (nv xs - nv ys))).length ≤ 400 := by rw [(madeN_dg true _).2]; omega
    rw [e1]
    rw [e2] at hl3 ⊢
    exact ⟨⟨⟨by omega, hlm, dx, dy⟩, hle⟩, by omega, hl3, rfl, rfl, rfl⟩
  · simp only [decide_eq_false_iff_not, hc] at h2
    have hle : nv xs ≤ nv ys := by unfold cmpN at h2; split at h2 <;> (try split at h2) <;> omega
    have hlm := dg_len_mono hle
    rw [← gx.1, ← gy.1] at hlm
    have hl2 := dg_len_mono (show nv ys - nv xs ≤ nv ys by omega)
    rw [← gy.1] at hl2
    obtain ⟨e1, e2⟩ := add_diff (xn := yn) (yn := xn) (by simp at h; exact fun k => h k.symm) hle
    rw [Int.add_comm] at e1 e2
    have hl3 : (trimL (dg (nv ys - nv xs))).length ≤ 400 := by rw [(madeN_dg true _).2]; omega
    rw [e1]
    rw [e2] at hl3 ⊢
    exact ⟨⟨⟨by omega, hlm, dy, dx⟩, hle⟩, by omega, hl3, rfl, rfl, rfl⟩
def ent_Add : Ent := fun ds => match ds with
  | [.agg [.v (.bool xn), .ro n_xs ys_xs], .agg [.v (.bool yn), .ro n_ys ys_ys]] => some (.tup [d_int (decide (iv xn (unu ys_xs) + iv yn (unu ys_ys) < 0)) (ofL (iv xn (unu ys_xs) + iv yn (unu ys_ys))), .v (.int .i64 0)], (ys_ys = u32s (unu ys_ys) ∧ n_ys = (unu ys_ys).length) ∧ (ys_xs = u32s (unu ys_xs) ∧ n_xs = (unu ys_xs).length) ∧ (Good xn (unu ys_xs) ∧ (unu ys_xs).length ≤ 200) ∧ Good yn (unu ys_ys) ∧ (unu ys_ys).length ≤ 200)
  | _ => none
theorem ent_Add_ok : EntOk Try.prog 30 ent_Add := by
  intro ds d c h hc; unfold ent_Add at h; split at h
  · rename_i xn n_xs ys_xs yn n_ys ys_ys; obtain ⟨rfl, rfl⟩ := pair_inj h
    obtain ⟨⟨h1, h2⟩, hc⟩ := hc; subst h2; generalize (unu ys_ys) = ys at *; subst h1
    obtain ⟨⟨h1, h2⟩, hc⟩ := hc; subst h2; generalize (unu ys_xs) = xs at *; subst h1
    exact Add_pure _ xs _ ys hc
  · cases h
end Go.Proofs.Ythnhfkpihbjddaa
