import Derived.Test.YthnhfkpihbjddaaZKv14
import Derived.Test.YthnhfkpihbjddaaZKv12
import Derived.Test.YthnhfkpihbjddaaZKv11
section
namespace Go.Proofs.Ythnhfkpihbjddaa
open Go.VD
set_option linter.unusedVariables false
set_option linter.unusedSimpArgs false
set_option maxRecDepth 100000
def topD (off : Nat) (zs : List Nat) (n : Nat) : Nat := zs.getD (off + n) 0 * 4294967296 + zs.getD (off + (n - 1)) 0
def qHyp (off : Nat) (zs ys : List Nat) : Prop := ((2 ≤ ys.length ∧ off + ys.length + 1 ≤ zs.length) ∧ zs.length ≤ 1000000) ∧ (Dig zs ∧ Dig ys) ∧ 2147483648 ≤ ys.getD (ys.length - 1) 0 ∧ uS off zs (ys.length + 1) < 4294967296 * nv ys
theorem guess_facts {off : Nat} {zs ys : List Nat} (hn2 : 2 ≤ ys.length) (hl : off + ys.length + 1 ≤ zs.length) (hz : Dig zs) (hy : Dig ys) (htop : 2147483648 ≤ ys.getD (ys.length - 1) 0) (hU : uS off zs (ys.length + 1) < 4294967296 * nv ys) :
    nv ys = (ys.getD (ys.length - 1) 0 * 4294967296 + ys.getD (ys.length - 2) 0) * 4294967296 ^ (ys.length - 2) + nv (ys.take (ys.length - 2)) ∧ nv (ys.take (ys.length - 2)) < 4294967296 ^ (ys.length - 2) ∧
    uS off zs (ys.length + 1) = (topD off zs ys.length * 4294967296 + zs.getD (off + (ys.length - 2)) 0) * 4294967296 ^ (ys.length - 2) + uS off zs (ys.length - 2) ∧ uS off zs (ys.length - 2) < 4294967296 ^ (ys.length - 2) ∧
    topD off zs ys.length < ys.getD (ys.length - 1) 0 * 4294967296 + 4294967296 ∧ zs.getD (off + (ys.length - 2)) 0 < 4294967296 ∧ ys.getD (ys.length - 2) 0 < 4294967296 ∧ ys.getD (ys.length - 1) 0 < 4294967296 ∧ 0 < nv ys := by
  have hV := nv_top hn2 rfl
  have hUe := nv_top3 hn2 hl
  have hVl := nv_lt (hy.take (ys.length - 2))
  rw [show (ys.take (ys.length - 2)).length = ys.length - 2 by simp] at hVl
  have hUl := uS_lt hz (show off + (ys.length - 2) ≤ zs.length by omega)
  have h2 := hy.get (ys.length - 2)
  have h3 := hy.get (ys.length - 1)
  refine ⟨hV, hVl, hUe, hUl, ?_, hz.get _, h2, h3, ?_⟩
  · rw [hUe, hV] at hU
    have e : zs.getD (off + ys.length) 0 * 4294967296 + zs.getD (off + (ys.length - 1)) 0 = topD off zs ys.length := rfl
    rw [e] at hU
    generalize topD off zs ys.length = T at *
    generalize ys.getD (ys.length - 1) 0 = v1 at *
    generalize ys.getD (ys.length - 2) 0 = v2 at *
    generalize 4294967296 ^ (ys.length - 2) = P at *
    generalize nv (ys.take (ys.length - 2)) = Vl at *
    refine Nat.lt_of_not_le fun h => ?_
    have m1 : (v1 * 4294967296 + 4294967296) * (4294967296 * P) ≤ T * (4294967296 * P) := Nat.mul_le_mul_right _ h
    have m2 : (v2 + 1) * (4294967296 * P) ≤ 4294967296 * (4294967296 * P) := Nat.mul_le_mul_right _ h2
    grind
  · rw [hV]
    have : 0 < (ys.getD (ys.length - 1) 0 * 4294967296 + ys.getD (ys.length - 2) 0) * 4294967296 ^ (ys.length - 2) := Nat.mul_pos (by omega) (pow_pos32 _)
    omega
theorem or_shift' {a b : Nat} (ha : a < 4294967296) (hb : b < 4294967296) : Go.bits BinOp.or IntKind.u64 (IntKind.u64.wrap ((a : Int) * 4294967296)) (IntKind.u64.wrap (b : Int)) = ((b + 4294967296 * a : Nat) : Int) := or_shift ha hb
def lp_guess (off : Nat) (zs ys : List Nat) : LoopO := loopRuleD (α := Int) (β := Int)
  (fun g => ∃ n : Nat, g = (n : Int) ∧ uS off zs (ys.length + 1) / nv ys ≤ n ∧ n * ys.getD (ys.length - 1) 0 ≤ topD off zs ys.length ∧ topD off zs ys.length - n * ys.getD (ys.length - 1) 0 < 4294967296)
  (fun g => [(0, d_at off (ys.length + 1)), (1, .ro ys.length (u32s ys)), (5, .v (.int .i64 (ys.length : Int))), (6, .v (.int .u64 (ys.getD (ys.length - 1) 0 : Nat))), (7, .v (.int .u64 (ys.getD (ys.length - 2) 0 : Nat))), (9, .v (.int .u64 g)), (10, .v (.int .u64 ((topD off zs ys.length : Int) - g * (ys.getD (ys.length - 1) 0 : Nat))))])
  (fun g => d_blk2 zs) ((topD off zs ys.length / ys.getD (ys.length - 1) 0 : Nat) : Int) (fun g => ∃ n : Nat, g = (n : Int) ∧ n < 4294967296 ∧ uS off zs (ys.length + 1) / nv ys ≤ n ∧ n ≤ uS off zs (ys.length + 1) / nv ys + 1)
  (fun g => (.exit 0, [(0, d_at off (ys.length + 1)), (1, .ro ys.length (u32s ys)), (5, .v (.int .i64 (ys.length : Int))), (9, .v (.int .u64 g))], d_blk2 zs))
theorem guess_rule (off : Nat) (zs ys : List Nat) (hpre : qHyp off zs ys) : LRule Try.prog Try.f93.ntmps (loopAt ((Try.f93.body).getD .skip) 5) (lp_guess off zs ys) := by
  refine lruleD_of (α := Int) (β := Int) (call := noCalls) (lp := fun _ => none) (N := 10) T_ok mixed noCalls_ok (fun g => g.toNat) (by kernel_rfl) (LpAll.none _) ?_
  intro g hJ
  refine of_eq (B := letI z0 := List.length ys; letI z22 := (z0 + (1 : Nat)); letI z1 := (Option.some (D.sl (0 : Nat) off z22 (Cap.exact z22 (1 : Nat)))); letI z11 := (List.getD ys (z0 - (1 : Nat)) (0 : Nat)); letI z2 := ((z11 : Nat) : Int); letI z3 := (Option.some (D.v (Value.int IntKind.i64 ((z0 : Nat) : Int)))); letI z4 := (Option.some (Blk.mk (41 : Nat) (u32s zs) Bool.true)); letI z18 := (((List.getD ys (z0 - (2 : Nat)) (0 : Nat)) : Nat) : Int); letI z5 := (Option.some (D.v (Value.int IntKind.u64 z18))); letI z24 := (Option.some (D.ro z0 (u32s ys))); letI z6 := (z24 = z24); letI z7 := ((uS off zs z22) / (nv ys)); letI z8 := (Option.some (D.v (Value.int IntKind.u64 (IntKind.wrap IntKind.u64 (g - (1 : Int)))))); letI z13 := topD off zs z0; letI z19 := ((z13 : Nat) : Int); letI z9 := (IntKind.wrap IntKind.u64 ((z19 - (g * z2)) + z2)); letI z10 := (IntKind.wrap IntKind.i64 (((z0 : Nat) : Int) - (2 : Int))); letI z12 := (Option.some (D.v (Value.int IntKind.u64 z2))); letI z14 := (Exit.exit (0 : Nat)); letI z23 := (off + ((Int.toNat z10) * (1 : Nat))); letI z15 := (List.getD (u32s zs) z23 (Inhabited.default)); letI z16 := ((0 : Int) ≤ (32 : Int)); letI z17 := (4294967296 : Nat); letI z20 := (4294967296 : Int); letI z21 := (Option.some (D.v (Value.int IntKind.u64 z9))); letI z25 := ((Int.fdiv z9 z20) != (0 : Int)); letI z26 := (z7 + (1 : Nat)); (True ∧ (z16 ∧ (True ∧ (True ∧ (pcond ((Int.fdiv g z20) != (0 : Int)) (True ∧ (True ∧ (True ∧ (True ∧ (True ∧ (True ∧ (True ∧ (True ∧ (True ∧ (z16 ∧ (True ∧ (pcond z25 (∃ (r : Int), ((∃ (n : Nat), ((r = ((n : Nat) : Int)) ∧ ((n < z17) ∧ ((z7 ≤ n) ∧ (n ≤ z26))))) ∧ ((z14 = z14) ∧ (((z1 = z1) ∧ (z6 ∧ ((z3 = z3) ∧ ((z8 = (Option.some (D.v (Value.int IntKind.u64 r)))) ∧ True)))) ∧ ([z4] = [z4]))))) (∃ (y : Int), (((Int.toNat y) < (Int.toNat g)) ∧ ((∃ (n : Nat), ((y = ((n : Nat) : Int)) ∧ ((z7 ≤ n) ∧ (((n * z11) ≤ z13) ∧ ((z13 - (n * z11)) < z17))))) ∧ (((z1 = z1) ∧ (z6 ∧ ((z3 = z3) ∧ ((z12 = z12) ∧ ((z5 = z5) ∧ ((z8 = (Option.some (D.v (Value.int IntKind.u64 y)))) ∧ ((z21 = (Option.some (D.v (Value.int IntKind.u64 (z19 - (y * z2)))))) ∧ True))))))) ∧ ([z4] = [z4]))))))))))))))))) (True ∧ (True ∧ (True ∧ (True ∧ (z16 ∧ (True ∧ (True ∧ (True ∧ ((((0 : Int) ≤ z10) ∧ (z10 < ((z22 : Nat) : Int))) ∧ (((z23 < (List.length (u32s zs))) ∧ (IsInt IntKind.u32 z15)) ∧ (True ∧ (True ∧ (True ∧ (True ∧ (pcond (Decidable.decide ((bits BinOp.or IntKind.u64 (IntKind.wrap IntKind.u64 ((z19 - (g * z2)) * z20)) (IntKind.wrap IntKind.u64 (cellInt z15))) < (IntKind.wrap IntKind.u64 (g * z18)))) (True ∧ (True ∧ (True ∧ (True ∧ (True ∧ (True ∧ (True ∧ (True ∧ (z16 ∧ (True ∧ (pcond z25 (∃ (r : Int), ((∃ (n : Nat), ((r = ((n : Nat) : Int)) ∧ ((n < z17) ∧ ((z7 ≤ n) ∧ (n ≤ z26))))) ∧ ((z14 = z14) ∧ (((z1 = z1) ∧ (z6 ∧ ((z3 = z3) ∧ ((z8 = (Option.some (D.v (Value.int IntKind.u64 r)))) ∧ True)))) ∧ ([z4] = [z4]))))) (∃ (y : Int), (((Int.toNat y) < (Int.toNat g)) ∧ ((∃ (n : Nat), ((y = ((n : Nat) : Int)) ∧ ((z7 ≤ n) ∧ (((n * z11) ≤ z13) ∧ ((z13 - (n * z11)) < z17))))) ∧ (((z1 = z1) ∧ (z6 ∧ ((z3 = z3) ∧ ((z12 = z12) ∧ ((z5 = z5) ∧ ((z8 = (Option.some (D.v (Value.int IntKind.u64 y)))) ∧ ((z21 = (Option.some (D.v (Value.int IntKind.u64 (z19 - (y * z2)))))) ∧ True))))))) ∧ ([z4] = [z4])))))))))))))))) (∃ (r : Int), ((∃ (n : Nat), ((r = ((n : Nat) : Int)) ∧ ((n < z17) ∧ ((z7 ≤ n) ∧ (n ≤ z26))))) ∧ ((z14 = z14) ∧ (((z1 = z1) ∧ (z6 ∧ ((z3 = z3) ∧ (((Option.some (D.v (Value.int IntKind.u64 g))) = (Option.some (D.v (Value.int IntKind.u64 r)))) ∧ True)))) ∧ ([z4] = [z4])))))))))))))))))))))))))) (by kernel_rfl) ?_
  simp only [true_and, and_true, and_self, IsInt_lit, IsBool_lit, IsStr_lit, Bool.not_eq_true', Bool.not_eq_false', Bool.not_true, Bool.not_false, Int.reduceLE, Int.reduceLT, Int.reduceNeg, Nat.le_refl, Int.le_refl, Nat.reduceLT, Nat.reduceLeDiff, Nat.reduceEqDiff, D.v.injEq, D.tup.injEq, D.agg.injEq, D.ro.injEq, List.cons.injEq, Value.int.injEq, Value.bool.injEq, pcond_true, pcond_false, NamelessL, Nameless, Nat.reduceMul, Nat.reduceAdd, Nat.zero_add, Int.toNat_natCast]
  obtain ⟨m, rfl, hq, hmT, hmr⟩ := hJ
  obtain ⟨⟨⟨hn2, hl⟩, hb⟩, ⟨hz, hy⟩, htop, hU⟩ := hpre
  obtain ⟨hV, hVl, hUe, hUl, hT, hu0, hv2, hv1, hV0⟩ := guess_facts hn2 hl hz hy htop hU
  have w1 : IntKind.i64.wrap ((ys.length : Int) - 2) = ((ys.length - 2 : Nat) : Int) := by rw [wrap_i64_of (by omega) (by omega)]; omega
  simp only [w1, Nat.mul_one, Int.toNat_natCast, u32s_cell, u32s_length, u32s_isInt zs (off + (ys.length - 2)) (by omega), and_true]
  generalize uS off zs (ys.length + 1) = U at *
  generalize nv ys = V at *
  generalize ys.getD (ys.length - 1) 0 = v1 at *
  generalize ys.getD (ys.length - 2) 0 = v2 at *
  generalize zs.getD (off + (ys.length - 2)) 0 = u0 at *
  generalize nv (ys.take (ys.length - 2)) = Vl at *
  generalize uS off zs (ys.length - 2) = Ul at *
  generalize 4294967296 ^ (ys.length - 2) = P at *
  generalize topD off zs ys.length = T at *
  have hqB : U / V < 4294967296 := by rw [Nat.div_lt_iff_lt_mul hV0]; exact hU
  have hTB : T < 18446744073709551616 := by
    have : v1 * 4294967296 ≤ 4294967295 * 4294967296 := Nat.mul_le_mul_right _ (by omega)
    omega
  have hmle : m ≤ T := Nat.le_trans (Nat.le_mul_of_pos_right m (by omega)) hmT
  have er : (T : Int) - (m : Int) * (v1 : Int) = ((T - m * v1 : Nat) : Int) := by
    rw [Int.ofNat_sub hmT, Int.natCast_mul]
  have eg : IntKind.u64.wrap ((m : Int) - 1) = (m : Int) - 1 ∨ m = 0 := by
    by_cases h : m = 0
    · exact .inr h
    · left; rw [wrap_u64_of (by omega) (by omega)]
  have w2 : IntKind.u64.wrap (((T - m * v1 : Nat) : Int) + (v1 : Int)) = ((T - m * v1 + v1 : Nat) : Int) := by rw [wrap_u64_of (by omega) (by omega)]; omega
  have fd : ∀ k : Nat, ((k : Int).fdiv 4294967296 != 0) = decide (4294967296 ≤ k) := fun k => by
    rw [Int.fdiv_eq_ediv_of_nonneg _ (by omega), Bool.eq_iff_iff]; simp; omega
  simp only [er, w2, fd]
  have down : m ≠ 0 → U / V ≤ m - 1 → ∀ X : Prop, pcond (decide (4294967296 ≤ T - m * v1 + v1))
      (∃ r : Int, (∃ n : Nat, r = (n : Int) ∧ n < 4294967296 ∧ U / V ≤ n ∧ n ≤ U / V + 1) ∧ some (D.v (Value.int IntKind.u64 (IntKind.u64.wrap ((m : Int) - 1)))) = some (D.v (Value.int IntKind.u64 r)))
      (∃ y : Int, y.toNat < m ∧ (∃ n : Nat, y = (n : Int) ∧ U / V ≤ n ∧ n * v1 ≤ T ∧ T - n * v1 < 4294967296) ∧ some (D.v (Value.int IntKind.u64 (IntKind.u64.wrap ((m : Int) - 1)))) = some (D.v (Value.int IntKind.u64 y)) ∧
        some (D.v (Value.int IntKind.u64 ((T - m * v1 + v1 : Nat) : Int))) = some (D.v (Value.int IntKind.u64 ((T : Int) - y * (v1 : Int))))) := by
    intro hm0 hqm X
    obtain ⟨k, rfl⟩ : ∃ k, m = k + 1 := ⟨m - 1, by omega⟩
    have eg : IntKind.u64.wrap (((k + 1 : Nat) : Int) - 1) = (k : Int) := by
      rcases eg with h | h
      · rw [h]; omega
      · omega
    have hkv : (k + 1) * v1 = k * v1 + v1 := by rw [Nat.add_mul, Nat.one_mul]
    rw [eg]
    simp only [Nat.add_sub_cancel] at hqm
    have hT3 : T - (k + 1) * v1 + v1 = T - k * v1 := by omega
    rw [hT3]
    refine pcond_intro (fun h => ?_) (fun h => ?_)
    · simp only [decide_eq_true_eq] at h
      have hk : k < 4294967296 := by
        refine Nat.lt_of_not_le fun hge => ?_
        have : 4294967296 * v1 ≤ k * v1 := Nat.mul_le_mul_right _ hge
        omega
      refine ⟨(k : Int), ⟨k, rfl, hk, hqm, ?_⟩, rfl⟩
      refine guess_exit hV hVl hUe (by omega) hk ?_
      have h1 : k * v2 ≤ 4294967296 * 4294967296 := Nat.mul_le_mul (by omega) (by omega)
      have h2 : k * (v1 * 4294967296 + v2) = k * v1 * 4294967296 + k * v2 := by grind
      rw [h2]; omega
    · simp only [decide_eq_false_iff_not] at h
      refine ⟨(k : Int), by omega, ⟨k, rfl, hqm, by omega, by omega⟩, rfl, ?_⟩
      rw [Int.ofNat_sub (by omega), Int.natCast_mul]
  refine pcond_intro (fun h => ?_) (fun h => ⟨⟨by omega, by omega⟩, by omega, pcond_intro (fun h2 => ?_) (fun h2 => ?_)⟩)
  · simp only [decide_eq_true_eq] at h
    exact down (by omega) (Nat.le_sub_one_of_lt (Nat.lt_of_lt_of_le hqB h)) True
  · simp only [decide_eq_false_iff_not] at h
    rw [or_shift' (by omega) hu0, ← Int.natCast_mul, wrap_u64_of (n := ((m * v2 : Nat) : Int)) (by omega) (by
      have : m * v2 ≤ 4294967295 * 4294967295 := Nat.mul_le_mul (by omega) (by omega)
      omega), decide_eq_true_eq] at h2
    have hlt : U / V < m := by
      refine guess_down hV hUe hUl hV0 ?_
      have e1 : m * (v1 * 4294967296 + v2) = m * v1 * 4294967296 + m * v2 := by grind
      rw [e1]; omega
    exact down (Nat.ne_of_gt (Nat.lt_of_le_of_lt (Nat.zero_le _) hlt)) (Nat.le_sub_one_of_lt hlt) True
  · simp only [decide_eq_false_iff_not] at h
    rw [or_shift' (by omega) hu0, ← Int.natCast_mul, wrap_u64_of (n := ((m * v2 : Nat) : Int)) (by omega) (by
      have : m * v2 ≤ 4294967295 * 4294967295 := Nat.mul_le_mul (by omega) (by omega)
      omega), decide_eq_false_iff_not] at h2
    refine ⟨(m : Int), ⟨m, rfl, by omega, hq, ?_⟩, rfl⟩
    refine guess_exit hV hVl hUe (by omega) (by omega) ?_
    have e1 : m * (v1 * 4294967296 + v2) = m * v1 * 4294967296 + m * v2 := by grind
    rw [e1]; omega
theorem qdig_mut (off : Nat) (zs ys : List Nat) (hpre : qHyp off zs ys) : MutJ Try.prog 93 off (ys.length + 1) (.exact (ys.length + 1) 1) [.ro ys.length (u32s ys)] ⟨41, u32s zs, true⟩ (.v (.int .u32 (uS off zs (ys.length + 1) / nv ys : Nat))) ⟨41, u32s (zs.take off ++ (dgn ys.length (uS off zs (ys.length + 1) % nv ys) ++ zs.drop (off + ys.length))), true⟩ := by
  refine mutJ_of_vcxA (call := addPure 106 ent_iword (addMut 124 entm_subTimes (addMut 109 entm_addTimes noCalls))) (lp := fun k' => bif Nat.beq k' 5 then some (lp_guess off zs ys) else none) (al := fun id => bif Nat.beq id 9 then some (6, 10) else none) (N := 10) T_ok mixed (addPure_ok ent_iword_ok (addMut_ok entm_subTimes_ok (addMut_ok entm_addTimes_ok noCalls_ok))) Try.func93 rfl (by decide) (by kernel_rfl) (by kernel_rfl)
    (of_eq (B := LRule Try.prog Try.f93.ntmps (loopAt ((Try.f93.body).getD .skip) 5) (lp_guess off zs ys) ∧ True) (by kernel_rfl) ⟨guess_rule off zs ys hpre, trivial⟩) (by simp [NamelessL, Nameless, u32s_nameless]) (by simp [Nameless]) (u32s_nameless _) (u32s_nameless _) ?_
  refine of_eq (B := letI z1 := List.length ys; letI z4 := ((z1 : Nat) : Int); letI z0 := (IntKind.wrap IntKind.i64 (z4 - (1 : Int))); letI z9 := (z1 + (1 : Nat)); letI z29 := (z9 - (Int.toNat z0)); letI z18 := ((Int.toNat z0) * (1 : Nat)); letI z2 := (List.take (z29 * (1 : Nat)) (List.drop (off + z18) (u32s zs))); letI z7 := (unu (u32s ys)); letI z3 := (List.length z7); letI z25 := (List.getD (u32s ys) z18 (Inhabited.default)); letI z5 := (IntKind.wrap IntKind.u64 (cellInt z25)); letI z6 := (List.getD ys (z1 - (1 : Nat)) (0 : Nat)); letI z8 := (off + (0 : Nat)); letI z10 := (unu (u32s zs)); letI z35 := Int.toNat z4; letI z11 := (off + (z35 * (1 : Nat))); letI z33 := ((0 : Int) ≤ z4); letI z31 := ((z9 : Nat) : Int); letI z15 := Bool.true = Bool.true; letI z37 := ((1 : Nat) = (1 : Nat)); letI z12 := ((True ∧ ((z33 ∧ (z4 ≤ ((z35 : Nat) : Int))) ∧ (z33 ∧ ((z4 ≤ z31) ∧ z15)))) ∧ z37); letI z13 := (IntKind.wrap IntKind.i64 (z4 - (2 : Int))); letI z14 := (Option.some (Blk.mk (41 : Nat) (u32s zs) Bool.true)); letI z16 := (Option.some (Blk.mk (41 : Nat) (u32s ((List.take off zs) ++ ((dgn z1 ((uS off zs z9) % (nv ys))) ++ (List.drop (off + z1) zs)))) Bool.true)); letI z17 := (z35 - (0 : Nat)); letI z19 := ((uS off zs z9) / (nv ys)); letI z28 := topD off zs z1; letI z20 := (((z28 / z6) : Nat) : Int); letI z34 := ((Int.toNat z13) * (1 : Nat)); letI z21 := (List.getD (u32s ys) z34 (Inhabited.default)); letI z22 := (Option.some (D.sl (0 : Nat) off z9 (Cap.exact z9 (1 : Nat)))); letI z23 := (D.v (Value.int IntKind.u32 ((z19 : Nat) : Int))); letI z24 := (Option.some (D.v (Value.int IntKind.i64 z4))); letI z26 := (List.getD (u32s zs) z11 (Inhabited.default)); letI z27 := ((z17 = z17) ∧ ((z17 = z3) ∧ (z1 = z3))); letI z30 := (((41 : Nat) = (41 : Nat)) ∧ z15); letI z32 := (Option.some (D.ro z1 (u32s ys))); letI z36 := (List.length (u32s ys)); letI z38 := (List.length (u32s zs)); letI z39 := ((u32s ys) = (u32s z7)); (True ∧ (True ∧ (True ∧ (True ∧ (True ∧ (True ∧ (True ∧ ((((0 : Int) ≤ z0) ∧ (z0 < z4)) ∧ (((z18 < z36) ∧ (IsInt IntKind.u32 z25)) ∧ (True ∧ (True ∧ (True ∧ (True ∧ ((((0 : Int) ≤ z13) ∧ (z13 < z4)) ∧ (((z34 < z36) ∧ (IsInt IntKind.u32 z21)) ∧ (True ∧ (True ∧ (True ∧ (z15 ∧ (True ∧ (True ∧ (True ∧ ((((((0 : Int) ≤ z0) ∧ (z0 ≤ z31)) ∧ (True ∧ True)) ∧ z37) ∧ (((((NamelessL (u32s zs)) ∧ (((0 : Nat) < (1 : Nat)) ∧ (((off + z18) + (z29 * (1 : Nat))) ≤ z38))) ∧ True) ∧ (((z2 = (u32s (unu z2))) ∧ (z29 = (List.length (unu z2)))) ∧ (Dig (unu z2)))) ∧ (True ∧ (True ∧ (True ∧ ((z5 ≠ (0 : Int)) ∧ (True ∧ (True ∧ ((z5 ≠ (0 : Int)) ∧ (True ∧ (True ∧ (z15 ∧ ((∃ (n : Nat), ((z20 = ((n : Nat) : Int)) ∧ ((z19 ≤ n) ∧ (((n * z6) ≤ z28) ∧ ((z28 - (n * z6)) < (4294967296 : Nat)))))) ∧ (((z22 = z22) ∧ ((z32 = z32) ∧ ((z24 = z24) ∧ (((Option.some (D.v (Value.int IntKind.u64 z5))) = (Option.some (D.v (Value.int IntKind.u64 ((z6 : Nat) : Int))))) ∧ (((Option.some (D.v (Value.int IntKind.u64 (IntKind.wrap IntKind.u64 (cellInt z21))))) = (Option.some (D.v (Value.int IntKind.u64 (((List.getD ys (z1 - (2 : Nat)) (0 : Nat)) : Nat) : Int))))) ∧ (((Option.some (D.v (Value.int IntKind.u64 (IntKind.wrap IntKind.u64 (Int.tdiv (wordV (unu z2)) z5))))) = (Option.some (D.v (Value.int IntKind.u64 z20)))) ∧ (((Option.some (D.v (Value.int IntKind.u64 (Int.tmod (wordV (unu z2)) z5)))) = (Option.some (D.v (Value.int IntKind.u64 (((z28 : Nat) : Int) - (z20 * ((z6 : Nat) : Int))))))) ∧ True))))))) ∧ (([z14] = [z14]) ∧ (∀ (r : Int), ((∃ (n : Nat), ((r = ((n : Nat) : Int)) ∧ ((n < (4294967296 : Nat)) ∧ ((z19 ≤ n) ∧ (n ≤ (z19 + (1 : Nat))))))) → (z15 ∧ (z15 ∧ (True ∧ (True ∧ (True ∧ (z12 ∧ (True ∧ (True ∧ (((z30 ∧ (((u32s zs) = (u32s z10)) ∧ z39)) ∧ ((z27 ∧ (((0 : Int) ≤ r) ∧ (r < (4294967296 : Int)))) ∧ ((((z8 + z3) ≤ (List.length z10)) ∧ ((List.length z10) ≤ (1000000 : Nat))) ∧ ((Dig z10) ∧ (Dig z7))))) ∧ (True ∧ (True ∧ ((z33 ∧ (z4 < z31)) ∧ ((((z11 < (List.length (u32s (subT z8 z10 z7 (Int.toNat r) z3)))) ∧ (IsInt IntKind.u32 (List.getD (u32s (subT z8 z10 z7 (Int.toNat r) z3)) z11 (Inhabited.default)))) ∧ ((z11 < z38) ∧ (IsInt IntKind.u32 z26))) ∧ ((((D.v (Value.int IntKind.u32 (cellInt z26))) = (D.v (Value.int IntKind.u32 (cellInt (List.getD (u32s (subT z8 z10 z7 (Int.toNat r) z3)) z11 (Inhabited.default)))))) ∧ ((Tch.rd (0 : Nat)) = (Tch.rd (0 : Nat)))) ∧ ((([(Option.some (Blk.mk (41 : Nat) (u32s (subT z8 z10 z7 (Int.toNat r) z3)) Bool.true))] = [(Option.some (Blk.mk (41 : Nat) (u32s (subT z8 z10 z7 (Int.toNat r) z3)) Bool.true))]) ∧ ([z14] = [z14])) ∧ (True ∧ (True ∧ (z15 ∧ (pcond (Decidable.decide ((IntKind.wrap IntKind.u64 (cellInt (List.getD (u32s (subT z8 z10 z7 (Int.toNat r) z3)) z11 (Inhabited.default)))) < (((bS z8 z10 z7 (Int.toNat r) z3) : Nat) : Int))) (True ∧ (True ∧ (True ∧ (True ∧ (True ∧ (True ∧ (z12 ∧ (True ∧ (((z30 ∧ (((u32s (subT z8 z10 z7 (Int.toNat r) z3)) = (u32s (unu (u32s (subT z8 z10 z7 (Int.toNat r) z3))))) ∧ z39)) ∧ ((z27 ∧ (((0 : Int) ≤ (1 : Int)) ∧ ((1 : Int) < (4294967296 : Int)))) ∧ ((((z8 + z3) ≤ (List.length (unu (u32s (subT z8 z10 z7 (Int.toNat r) z3))))) ∧ ((List.length (unu (u32s (subT z8 z10 z7 (Int.toNat r) z3)))) ≤ (1000000 : Nat))) ∧ ((Dig (unu (u32s (subT z8 z10 z7 (Int.toNat r) z3)))) ∧ (Dig z7))))) ∧ (True ∧ (True ∧ (True ∧ (True ∧ (((D.v (Value.int IntKind.u32 (IntKind.wrap IntKind.u32 (IntKind.wrap IntKind.u64 (r - (1 : Int)))))) = z23) ∧ ([(Option.some (Blk.mk (41 : Nat) (u32s (addT z8 (unu (u32s (subT z8 z10 z7 (Int.toNat r) z3))) z7 (1 : Nat) z3)) Bool.true))] = [z16]))))))))))))))) (True ∧ (True ∧ (True ∧ (True ∧ (((D.v (Value.int IntKind.u32 (IntKind.wrap IntKind.u32 r))) = z23) ∧ ([(Option.some (Blk.mk (41 : Nat) (u32s (subT z8 z10 z7 (Int.toNat r) z3)) Bool.true))] = [z16]))))))))))))))))))))))))))))))))))))))))))))))))))))))))))))))))) (by kernel_rfl) ?_
  simp only [true_and, and_true, and_self, IsInt_lit, IsBool_lit, IsStr_lit, Bool.not_eq_true', Bool.not_eq_false', Bool.not_true, Bool.not_false, Int.reduceLE, Int.reduceLT, Int.reduceNeg, Nat.le_refl, Int.le_refl, Nat.reduceLT, Nat.reduceLeDiff, Nat.reduceEqDiff, D.v.injEq, D.tup.injEq, D.agg.injEq, D.ro.injEq, List.cons.injEq, Value.int.injEq, Value.bool.injEq, pcond_true, pcond_false, NamelessL, Nameless, Nat.reduceMul, Nat.reduceAdd, Nat.zero_add, Int.toNat_natCast, unu_u32s]
  obtain ⟨⟨⟨hn2, hl⟩, hb⟩, ⟨hz, hy⟩, htop, hU⟩ := hpre
  obtain ⟨hV, hVl, hUe, hUl, hT, hu0, hv2, hv1, hV0⟩ := guess_facts hn2 hl hz hy htop hU
  have hgi := guess_init hV hUe hUl hu0 (by omega) hV0
  have w1 : IntKind.i64.wrap ((ys.length : Int) - 1) = ((ys.length - 1 : Nat) : Int) := by rw [wrap_i64_of (by omega) (by omega)]; omega
  have w2 : IntKind.i64.wrap ((ys.length : Int) - 2) = ((ys.length - 2 : Nat) : Int) := by rw [wrap_i64_of (by omega) (by omega)]; omega
  have w3 : IntKind.u64.wrap ((ys.getD (ys.length - 1) 0 : Nat) : Int) = ((ys.getD (ys.length - 1) 0 : Nat) : Int) := wrap_u64_of (by omega) (by omega)
  have w4 : IntKind.u64.wrap ((ys.getD (ys.length - 2) 0 : Nat) : Int) = ((ys.getD (ys.length - 2) 0 : Nat) : Int) := wrap_u64_of (by omega) (by omega)
  have e2 : ys.length + 1 - (ys.length - 1) = 2 := by omega
  have hseg : List.take 2 (List.drop (off + (ys.length - 1)) (u32s zs)) = u32s ((zs.drop (off + (ys.length - 1))).take 2) := by rw [u32s_drop, u32s_take]
  have hwd : wordV ((zs.drop (off + (ys.length - 1))).take 2) = ((topD off zs ys.length : Nat) : Int) := by
    rw [wordV_eq, take_getD (by decide), take_getD (by decide), getD_drop, getD_drop, show off + (ys.length - 1) + 1 = off + ys.length by omega, Nat.add_zero]
    unfold topD; omega
  have hq1 : IntKind.u64.wrap (((topD off zs ys.length : Nat) : Int).tdiv ((ys.getD (ys.length - 1) 0 : Nat) : Int)) = ((topD off zs ys.length / ys.getD (ys.length - 1) 0 : Nat) : Int) := by
    rw [Int.tdiv_eq_ediv_of_nonneg (by omega), ← Int.natCast_ediv, wrap_u64_of (Int.natCast_nonneg _)]
    have := Nat.div_le_self (topD off zs ys.length) (ys.getD (ys.length - 1) 0)
    have : ys.getD (ys.length - 1) 0 * 4294967296 ≤ 4294967295 * 4294967296 := Nat.mul_le_mul_right _ (by omega)
    generalize topD off zs ys.length / ys.getD (ys.length - 1) 0 = q at *
    omega
  have hdm := Nat.div_add_mod (topD off zs ys.length) (ys.getD (ys.length - 1) 0)
  have hml := Nat.mod_lt (topD off zs ys.length) (show 0 < ys.getD (ys.length - 1) 0 by omega)
  have hr1 : ((topD off zs ys.length : Nat) : Int).tmod ((ys.getD (ys.length - 1) 0 : Nat) : Int) = ((topD off zs ys.length : Nat) : Int) - ((topD off zs ys.length / ys.getD (ys.length - 1) 0 : Nat) : Int) * ((ys.getD (ys.length - 1) 0 : Nat) : Int) := by
    rw [Int.tmod_eq_emod_of_nonneg (by omega), ← Int.natCast_emod, ← Int.natCast_mul, Nat.mul_comm (topD off zs ys.length / _)]
    omega
  simp only [w1, w2, e2, hseg, unu_u32s, hwd, Nat.mul_one, Int.toNat_natCast, u32s_cell, u32s_length, w3, w4, hq1, hr1, u32s_isInt ys (ys.length - 1) (by omega), u32s_isInt ys (ys.length - 2) (by omega), and_true, Nat.add_zero]
  refine ⟨⟨by omega, by omega⟩, by omega, ⟨by omega, by omega⟩, by omega, ⟨by omega, by omega⟩, ⟨⟨u32s_nameless _, by omega⟩, ⟨trivial, by simp; omega⟩, (hz.drop _).take _⟩, by omega, by omega, ⟨topD off zs ys.length / ys.getD (ys.length - 1) 0, rfl, hgi, ?_, ?_⟩, ?_⟩
  · rw [Nat.mul_comm]; omega
  · rw [Nat.mul_comm]; omega
  refine ⟨trivial, ?_⟩
  rintro r ⟨m, rfl, hm, hqm, hmq⟩
  obtain ⟨f1, f2⟩ := quot_fin hz hy hl rfl hV0 hU hqm hmq
  have hlen := subT_length (ys := ys) (k := m) (show off + ys.length ≤ zs.length by omega)
  have hget := subT_get (ys := ys) (k := m) (show off + ys.length < zs.length by omega)
  have hdig := subT_dig (off := off) (ys := ys) (k := m) (i := ys.length) hz
  have hzl := hz.get (off + ys.length)
  have w5 : IntKind.u64.wrap ((zs.getD (off + ys.length) 0 : Nat) : Int) = ((zs.getD (off + ys.length) 0 : Nat) : Int) := wrap_u64_of (by omega) (by omega)
  have w6 : IntKind.u32.wrap (m : Int) = (m : Int) := wrap_u32_of (by omega) (by omega)
  simp only [Int.toNat_natCast, hlen, hget, w5, w6, u32s_isInt zs (off + ys.length) (by omega), u32s_isInt (subT off zs ys m ys.length) (off + ys.length) (by omega), and_true]
  refine ⟨⟨by omega, by omega, by omega⟩, ⟨⟨by omega, by omega, by omega⟩, ⟨by omega, by omega⟩, hz, hy⟩, ⟨by omega, by omega⟩, ⟨by omega, by omega⟩, trivial, pcond_intro (fun h => ?_) (fun h => ?_)⟩
  · simp only [decide_eq_true_eq] at h
    obtain ⟨g1, g2⟩ := f2 (by omega)
    refine ⟨⟨by omega, by omega, by omega⟩, ⟨by omega, ⟨by omega, by omega⟩, hdig, hy⟩, ?_, by rw [g2]⟩
    rw [g1]
    generalize uS off zs (ys.length + 1) / nv ys = q at *
    rw [wrap_u64_of (by omega) (by omega), wrap_u32_of (by omega) (by omega)]; omega
  · simp only [decide_eq_false_iff_not] at h
    obtain ⟨g1, g2⟩ := f1 (by omega)
    exact ⟨by rw [← g1], by rw [g2]⟩
def entm_qdig : EntM := fun off n c plain blk => match c, plain, blk with
  | .exact cap 1, [.ro m ys], ⟨ty, cs, full⟩ => some (.v (.int .u32 (uS off (unu cs) ((unu ys).length + 1) / nv (unu ys) : Nat)), ⟨ty, u32s ((unu cs).take off ++ (dgn (unu ys).length (uS off (unu cs) ((unu ys).length + 1) % nv (unu ys)) ++ (unu cs).drop (off + (unu ys).length))), full⟩,
      ((ty = 41 ∧ full = true) ∧ (cs = u32s (unu cs) ∧ ys = u32s (unu ys))) ∧ ((cap = n ∧ n = (unu ys).length + 1) ∧ m = (unu ys).length) ∧ qHyp off (unu cs) (unu ys))
  | _, _, _ => none
theorem entm_qdig_ok : EntMOk Try.prog 93 entm_qdig := by
  intro off n c plain blk d blk' p h hp
  unfold entm_qdig at h
  split at h
  · rename_i cap m ys ty cs full
    simp only [Option.some.injEq, Prod.mk.injEq] at h
    obtain ⟨rfl, rfl, rfl⟩ := h
    obtain ⟨⟨⟨rfl, rfl⟩, hcs, hys⟩, ⟨⟨rfl, hn⟩, hm⟩, hq⟩ := hp
    generalize unu cs = zs at *
    generalize unu ys = yl at *
    subst hcs; subst hys; subst hn; subst hm
    exact qdig_mut off zs yl hq
  · cases h
end Go.Proofs.Ythnhfkpihbjddaa
end
section
namespace Go.Proofs.Ythnhfkpihbjddaa
open Go.VD
set_option linter.unusedVariables false
set_option linter.unusedSimpArgs false
theorem dgn_add : ∀ (a b v : Nat), dgn (a + b) v = dgn a v ++ dgn b (v / 4294967296 ^ a)
  | 0, b, v => by simp [dgn]
  | a + 1, b, v => by
    rw [show a + 1 + b = (a + b) + 1 by omega, dgn, dgn, dgn_add a b, List.cons_append, Nat.div_div_eq_div_mul, Nat.pow_succ, Nat.mul_comm 4294967296]
theorem norm_facts {ys : List Nat} (hg : ys = dg (nv ys)) (h0 : 0 < nv ys) : (32 - bl (ys.getD (ys.length - 1) 0) < 32 ∧ (dg (nv ys * 2 ^ (32 - bl (ys.getD (ys.length - 1) 0)))).length = ys.length) ∧
    2147483648 ≤ (dg (nv ys * 2 ^ (32 - bl (ys.getD (ys.length - 1) 0)))).getD (ys.length - 1) 0 ∧ 0 < ys.length ∧ nv ys * 2 ^ (32 - bl (ys.getD (ys.length - 1) 0)) < 4294967296 ^ ys.length ∧ 4294967296 ^ ys.length ≤ 2 * (nv ys * 2 ^ (32 - bl (ys.getD (ys.length - 1) 0))) := by
  have hd : Dig ys := by rw [hg]; exact dg_dig _
  obtain ⟨hl, hne⟩ := last_dg (v := nv ys) (by omega)
  rw [← hg] at hl hne
  obtain ⟨b1, b2⟩ := bl_le hne
  have b3 := bl_lt (ys.getD (ys.length - 1) 0)
  have b4 := bl32 (hd.get (ys.length - 1))
  obtain ⟨n, hn⟩ : ∃ n, ys.length = n + 1 := ⟨ys.length - 1, by omega⟩
  have e1 := nv_take_succ ys n (by omega)
  rw [← hn, List.take_length] at e1
  have hlow := nv_lt (hd.take n)
  rw [show (ys.take n).length = n by simp; omega] at hlow
  have hn1 : ys.length - 1 = n := by omega
  rw [hn1] at b1 b2 b3 b4 hne ⊢
  generalize ys.getD n 0 = d at *
  have e2 : (4294967296 : Nat) = 2 ^ bl d * 2 ^ (32 - bl d) := by rw [← Nat.pow_add, show bl d + (32 - bl d) = 32 by omega]
  have e3 : (2147483648 : Nat) = 2 ^ (bl d - 1) * 2 ^ (32 - bl d) := by rw [← Nat.pow_add, show bl d - 1 + (32 - bl d) = 31 by omega]
  have p2 : 0 < 2 ^ (32 - bl d) := Nat.pow_pos (by decide)
  have up : nv ys * 2 ^ (32 - bl d) < 4294967296 ^ (n + 1) := by
    have h1 : nv ys < 2 ^ bl d * 4294967296 ^ n := by
      have : (d + 1) * 4294967296 ^ n ≤ 2 ^ bl d * 4294967296 ^ n := Nat.mul_le_mul_right _ b3
      rw [Nat.add_mul, Nat.one_mul] at this
      omega
    have h2 := Nat.mul_lt_mul_of_pos_right h1 p2
    rw [Nat.pow_succ]
    have e4 : 2 ^ bl d * 4294967296 ^ n * 2 ^ (32 - bl d) = 4294967296 ^ n * (2 ^ bl d * 2 ^ (32 - bl d)) := by grind
    rw [e4, ← e2] at h2
    exact h2
  have low : 2147483648 * 4294967296 ^ n ≤ nv ys * 2 ^ (32 - bl d) := by
    have h1 : 2 ^ (bl d - 1) * 4294967296 ^ n ≤ nv ys := by
      have := Nat.mul_le_mul_right (4294967296 ^ n) b2
      omega
    have h2 := Nat.mul_le_mul_right (2 ^ (32 - bl d)) h1
    have e4 : 2 ^ (bl d - 1) * 4294967296 ^ n * 2 ^ (32 - bl d) = (2 ^ (bl d - 1) * 2 ^ (32 - bl d)) * 4294967296 ^ n := by grind
    rw [e4, ← e3] at h2
    exact h2
  have hpn := pow_pos32 n
  have hlen : (dg (nv ys * 2 ^ (32 - bl d))).length = n + 1 := by
    have h1 := dg_length_le up
    rcases Nat.lt_or_ge (dg (nv ys * 2 ^ (32 - bl d))).length (n + 1) with h | h
    · have := lt_of_dg_length (v := nv ys * 2 ^ (32 - bl d)) (k := n) (by omega)
      omega
    · omega
  rw [hn]
  refine ⟨⟨by omega, hlen⟩, ?_, by omega, up, ?_⟩
  · have e5 : dg (nv ys * 2 ^ (32 - bl d)) = dgn (n + 1) (nv ys * 2 ^ (32 - bl d)) := by
      have := dgn_nv (dg_dig (nv ys * 2 ^ (32 - bl d)))
      rw [hlen, nv_dg] at this
      exact this.symm
    rw [e5, dgn_getD _ _ _ (by omega)]
    have h1 : nv ys * 2 ^ (32 - bl d) / 4294967296 ^ n < 4294967296 := by
      rw [Nat.div_lt_iff_lt_mul hpn, Nat.mul_comm 4294967296, ← Nat.pow_succ]; exact up
    rw [Nat.mod_eq_of_lt h1, Nat.le_div_iff_mul_le hpn]
    exact low
  · rw [Nat.pow_succ]; omega
theorem div_round {us U0 : List Nat} {X V n k L : Nat} (hU0 : U0 = dgn L X) (hul : us.length = L) (hu : Dig us) (hk : k + 1 + n ≤ L) (hV : 0 < V) (hVn : V < 4294967296 ^ n)
    (ht : us.take (k + 1 + n) = U0.take (k + 1) ++ dgn n (X / 4294967296 ^ (k + 1) % V)) :
    uS k us (n + 1) < 4294967296 * V ∧ X / 4294967296 ^ k / V % 4294967296 = uS k us (n + 1) / V ∧ uS k us (n + 1) % V = X / 4294967296 ^ k % V ∧
    (us.take k ++ (dgn n (uS k us (n + 1) % V) ++ us.drop (k + n))).take (k + n) = U0.take k ++ dgn n (X / 4294967296 ^ k % V) := by
  have hr := Nat.mod_lt (X / 4294967296 ^ (k + 1)) hV
  have hUl : U0.length = L := by rw [hU0, dgn_length]
  have tk : us.take k = U0.take k := by
    have := congrArg (List.take k) ht
    rw [List.take_take, Nat.min_eq_left (by omega), List.take_append_of_le_length (by simp; omega), List.take_take, Nat.min_eq_left (by omega)] at this
    exact this
  have hseg : (us.drop k).take (n + 1) = (U0.getD k 0) :: dgn n (X / 4294967296 ^ (k + 1) % V) := by
    have h1 : (us.drop k).take (n + 1) = (us.take (k + 1 + n)).drop k := by rw [List.drop_take]; congr 1; omega
    have h2 : U0.take (k + 1) = U0.take k ++ [U0.getD k 0] := by
      rw [List.take_succ_eq_append_getElem (by omega), List.getD_eq_getElem?_getD, List.getElem?_eq_getElem (by omega)]; rfl
    rw [h1, ht, h2, List.append_assoc, List.drop_append_of_le_length (by simp; omega), List.drop_eq_nil_of_le (by simp; omega), List.nil_append]
    rfl
  have hu0 : U0.getD k 0 = X / 4294967296 ^ k % 4294967296 := by rw [hU0, dgn_getD _ _ _ (by omega)]
  have hS : uS k us (n + 1) = X / 4294967296 ^ k % 4294967296 + 4294967296 * (X / 4294967296 ^ (k + 1) % V) := by
    unfold uS
    rw [hseg, nv, nv_dgn, hu0, Nat.mod_eq_of_lt (Nat.lt_trans hr hVn)]
  have hdm : X / 4294967296 ^ (k + 1) = X / 4294967296 ^ k / 4294967296 := div_pow_succ X k
  rw [hdm] at hS hr
  generalize X / 4294967296 ^ k = Y at *
  have h1 := Nat.div_add_mod (Y / 4294967296) V
  have h2 := Nat.div_add_mod Y 4294967296
  have h3 := Nat.mod_lt Y (show 0 < 4294967296 by decide)
  generalize uS k us (n + 1) = S at *
  have hSV : S < 4294967296 * V := by
    have : 4294967296 * (Y / 4294967296 % V + 1) ≤ 4294967296 * V := Nat.mul_le_mul_left _ hr
    rw [Nat.mul_add] at this
    omega
  have hY : Y = S + V * (4294967296 * (Y / 4294967296 / V)) := by
    rw [hS]
    have : 4294967296 * (V * (Y / 4294967296 / V) + Y / 4294967296 % V) = 4294967296 * (Y / 4294967296) := by rw [h1]
    generalize Y / 4294967296 / V = a at *
    generalize Y / 4294967296 % V = b at *
    generalize Y / 4294967296 = c at *
    grind
  have hq : Y / V = S / V + 4294967296 * (Y / 4294967296 / V) := by
    conv => lhs; rw [hY]
    rw [Nat.add_mul_div_left _ _ hV]
  have hm : Y % V = S % V := by
    conv => lhs; rw [hY]
    rw [Nat.add_mul_mod_self_left]
  have hsl : S / V < 4294967296 := by rw [Nat.div_lt_iff_lt_mul hV]; exact hSV
  refine ⟨hSV, ?_, hm.symm, ?_⟩
  · rw [hq, Nat.add_mul_mod_self_left, Nat.mod_eq_of_lt hsl]
  · rw [hm, tk, ← List.append_assoc, List.take_append_of_le_length (by simp [dgn_length]; omega)]
    exact List.take_of_length_le (by simp [dgn_length]; omega)
theorem q_round {Q j k : Nat} : (List.replicate (k + 1) 0 ++ dgn j (Q / 4294967296)).set k (Q % 4294967296) = List.replicate k 0 ++ dgn (j + 1) Q := by
  have e : List.replicate (k + 1) 0 = List.replicate k 0 ++ [0] := by rw [List.replicate_succ']
  rw [e, List.append_assoc, List.set_append_right _ _ (by simp), List.length_replicate, Nat.sub_self]
  simp [dgn]
theorem scale_div {x y s : Nat} : x * 2 ^ s / (y * 2 ^ s) = x / y := Nat.mul_div_mul_right _ _ (Nat.pow_pos (by decide))
theorem scale_mod {x y s : Nat} : x * 2 ^ s % (y * 2 ^ s) / 2 ^ s = x % y := by
  rw [Nat.mul_mod_mul_right, Nat.mul_div_cancel _ (Nat.pow_pos (by decide))]
theorem div_start {xs : List Nat} {V s n M : Nat} (hx : Dig xs) (hs : s < 32) (hn : n + M = xs.length + 1) (hn1 : 0 < n) (hVl : 4294967296 ^ n ≤ 2 * V) :
    (dgn (xs.length + 1) (nv xs * 2 ^ s)).take (M + n) = (dgn (xs.length + 1) (nv xs * 2 ^ s)).take M ++ dgn n (nv xs * 2 ^ s / 4294967296 ^ M % V) ∧ nv xs * 2 ^ s / 4294967296 ^ M / V = 0 := by
  have h1 : nv xs * 2 ^ s / 4294967296 ^ M < V := by
    rw [Nat.div_lt_iff_lt_mul (pow_pos32 M)]
    have h2 := nv_lt hx
    obtain ⟨_, h3⟩ := pow32 hs
    have h4 : nv xs * 2 ^ s ≤ nv xs * 2147483648 := Nat.mul_le_mul_left _ h3
    have h5 : 4294967296 ^ n * 4294967296 ^ M ≤ 2 * V * 4294967296 ^ M := Nat.mul_le_mul_right _ hVl
    rw [← Nat.pow_add, hn, Nat.pow_succ, Nat.mul_assoc] at h5
    generalize V * 4294967296 ^ M = W at *
    omega
  refine ⟨?_, Nat.div_eq_of_lt h1⟩
  rw [Nat.mod_eq_of_lt h1]
  have e : dgn (xs.length + 1) (nv xs * 2 ^ s) = dgn M (nv xs * 2 ^ s) ++ dgn n (nv xs * 2 ^ s / 4294967296 ^ M) := by rw [← dgn_add, show M + n = xs.length + 1 by omega]
  rw [e, List.take_of_length_le (by simp [dgn_length]), List.take_append_of_le_length (by rw [dgn_length]; exact Nat.le_refl _), List.take_of_length_le (by rw [dgn_length]; exact Nat.le_refl _)]
end Go.Proofs.Ythnhfkpihbjddaa
end
section
namespace Go.Proofs.Ythnhfkpihbjddaa
open Go.VD
set_option linter.unusedVariables false
set_option linter.unusedSimpArgs false
set_option maxRecDepth 100000
theorem idiv32_pure (h l y : Int) (hpre : (0 ≤ h ∧ h < y) ∧ (0 ≤ l ∧ l < 4294967296) ∧ y < 4294967296) : PureJ Try.prog 122 [.v (.int .u32 h), .v (.int .u32 l), .v (.int .u32 y)] (.tup [.v (.int .u32 ((h * 4294967296 + l) / y)), .v (.int .u32 ((h * 4294967296 + l) % y))]) := by
  refine pureJ_of_vcx (call := noCalls) (lp := fun _ => none) (N := 10) T_ok mixed noCalls_ok Try.func122 rfl (by decide) (by kernel_rfl) (by kernel_rfl) (LpAll.none _) (by first | trivial | (simp only [NamelessL, Nameless, and_self, and_true, true_and]; done) | (simp [NamelessL, Nameless, u32s_nameless, namelessL_ints]; done)) (by first | trivial | (simp only [NamelessL, Nameless, and_self, and_true, true_and]; done) | (simp [NamelessL, Nameless, u32s_nameless, namelessL_ints]; done)) ?_
  refine of_eq (B := letI z2 := IntKind.wrap IntKind.u64 y; letI z3 := (4294967296 : Int); letI z1 := (bits BinOp.or IntKind.u64 (IntKind.wrap IntKind.u64 ((IntKind.wrap IntKind.u64 h) * z3)) (IntKind.wrap IntKind.u64 l)); letI z0 := (True ∧ (True ∧ (((0 : Int) ≤ (32 : Int)) ∧ (True ∧ (True ∧ (True ∧ (True ∧ (True ∧ (True ∧ (True ∧ ((z2 ≠ (0 : Int)) ∧ (True ∧ (True ∧ (True ∧ (True ∧ ((z2 ≠ (0 : Int)) ∧ (True ∧ (True ∧ (True ∧ ((Bool.true = Bool.true) ∧ (True ∧ ((True ∧ (True ∧ True)) ∧ ((D.tup [(D.v (Value.int IntKind.u32 (IntKind.wrap IntKind.u32 (IntKind.wrap IntKind.u64 (Int.tdiv z1 z2))))), (D.v (Value.int IntKind.u32 (IntKind.wrap IntKind.u32 (Int.tmod z1 z2))))]) = (D.tup [(D.v (Value.int IntKind.u32 (((h * z3) + l) / y))), (D.v (Value.int IntKind.u32 (((h * z3) + l) % y)))])))))))))))))))))))))))); (True ∧ (True ∧ (True ∧ (True ∧ (True ∧ (pcond (y != (0 : Int)) (True ∧ (True ∧ (True ∧ (True ∧ (pcond (Decidable.decide (y ≤ h)) False z0))))) (True ∧ z0)))))))) (by kernel_rfl) ?_
  simp only [true_and, and_true, and_self, IsInt_lit, IsBool_lit, IsStr_lit, Bool.not_eq_true', Bool.not_eq_false', Bool.not_true, Bool.not_false, Int.reduceLE, Int.reduceLT, Int.reduceNeg, Nat.le_refl, Int.le_refl, Nat.reduceLT, Nat.reduceLeDiff, Nat.reduceEqDiff, D.v.injEq, D.tup.injEq, D.agg.injEq, D.ro.injEq, List.cons.injEq, Value.int.injEq, Value.bool.injEq, pcond_true, pcond_false, NamelessL, Nameless, Nat.reduceMul, Nat.reduceAdd, Nat.zero_add, Int.toNat_natCast]
  obtain ⟨⟨h0, h1⟩, ⟨l0, l1⟩, hy⟩ := hpre
  obtain ⟨h, rfl⟩ := Int.eq_ofNat_of_zero_le h0
  obtain ⟨l, rfl⟩ := Int.eq_ofNat_of_zero_le l0
  obtain ⟨y, rfl⟩ := Int.eq_ofNat_of_zero_le (show 0 ≤ y by omega)
  have e0 := or_shift (a := h) (b := l) (by omega) (by omega)
  have w0 : IntKind.u64.wrap ((h : Nat) : Int) = (h : Nat) := by rw [wrap_u64]; omega
  have w1 : IntKind.u64.wrap ((y : Nat) : Int) = (y : Nat) := by rw [wrap_u64]; omega
  have e1 : (h : Int) * 4294967296 + l = ((l + 4294967296 * h : Nat) : Int) := by omega
  have hb : l + 4294967296 * h < y * 4294967296 := by
    have : (h + 1) * 4294967296 ≤ y * 4294967296 := Nat.mul_le_mul_right _ (by omega)
    omega
  have hq : (l + 4294967296 * h) / y < 4294967296 := by
    rw [Nat.div_lt_iff_lt_mul (by omega)]; omega
  have hr : (l + 4294967296 * h) % y < y := Nat.mod_lt _ (by omega)
  refine pcond_intro (fun _ => pcond_intro (fun h2 => ?_) (fun _ => ?_)) (fun h2 => ?_)
  · simp only [decide_eq_true_eq] at h2; omega
  · simp only [w0, w1, e0, e1]
    generalize l + 4294967296 * h = v at *
    refine ⟨by omega, by omega, ?_, ?_⟩
    · rw [Int.tdiv_eq_ediv_of_nonneg (by omega), ← Int.natCast_ediv, wrap_u64, wrap_u32]; generalize v / y = q at *; omega
    · rw [Int.tmod_eq_emod_of_nonneg (by omega), ← Int.natCast_emod, wrap_u32]; generalize v % y = q at *; omega
  · simp at h2; omega
def ent_idiv32 : Ent := fun ds => match ds with
  | [.v (.int .u32 h), .v (.int .u32 l), .v (.int .u32 y)] => some (.tup [.v (.int .u32 ((h * 4294967296 + l) / y)), .v (.int .u32 ((h * 4294967296 + l) % y))], (0 ≤ h ∧ h < y) ∧ (0 ≤ l ∧ l < 4294967296) ∧ y < 4294967296)
  | _ => none
theorem ent_idiv32_ok : EntOk Try.prog 122 ent_idiv32 := by
  intro ds d c h hc; unfold ent_idiv32 at h; split at h
  · obtain ⟨rfl, rfl⟩ := pair_inj h; exact idiv32_pure _ _ _ hc
  · cases h
def d_zb (full : Bool) (o : List Nat) : Heap := [some ⟨41, u32s o, full⟩]
def d_sE (n : Nat) : D := .sl 0 0 n (.toEnd 1)
def lp_digE (full : Bool) (zs : List Nat) (n d : Nat) : LoopO := loopRuleD (α := Nat) (β := Unit) (fun k => k ≤ n)
  (fun k => [(0, d_sE n), (1, .v (.int .u32 (d : Int))), (5, .v (.int .u32 (remT zs n d k : Nat))), (6, .v (.int .i64 ((k : Int) - 1)))])
  (fun k => d_zb full (divT zs n d k)) n (fun _ => True) (fun _ => (.exit 0, [(5, .v (.int .u32 (remT zs n d 0 : Nat)))], d_zb full (divT zs n d 0)))
theorem digE_rule (full : Bool) (zs : List Nat) (n d : Nat) (hpre : (n ≤ zs.length ∧ zs.length ≤ 1000000) ∧ Dig zs ∧ 0 < d ∧ d < 4294967296) : LRule Try.prog Try.f88.ntmps (loopAt ((Try.f88.body).getD .skip) 3) (lp_digE full zs n d) := by
  refine lruleD_of (α := Nat) (β := Unit) (call := addPure 122 ent_idiv32 noCalls) (lp := fun _ => none) (N := 10) T_ok mixed (addPure_ok ent_idiv32_ok noCalls_ok) (fun k => k) (by kernel_rfl) (LpAll.none _) ?_
  intro k hJ
  refine of_eq (B := letI z4 := (u32s (divT zs n d k)); letI z1 := (((k : Nat) : Int) - (1 : Int)); letI z2 := ((0 : Nat) + ((Int.toNat z1) * (1 : Nat))); letI z0 := (List.getD z4 z2 (Inhabited.default)); letI z3 := (((remT zs n d k) : Nat) : Int); letI z5 := ((d : Nat) : Int); letI z6 := (Option.some (D.sl (0 : Nat) (0 : Nat) n (Cap.toEnd (1 : Nat)))); letI z7 := (((0 : Int) ≤ z1) ∧ (z1 < ((n : Nat) : Int))); letI z8 := (4294967296 : Int); letI z9 := (Option.some (D.v (Value.int IntKind.u32 z5))); letI z10 := ((z3 * z8) + (cellInt z0)); letI z11 := (Exit.exit (0 : Nat)); (True ∧ (True ∧ (pcond (Decidable.decide ((0 : Int) ≤ z1)) (True ∧ (True ∧ (True ∧ (True ∧ (True ∧ (z7 ∧ (((z2 < (List.length z4)) ∧ (IsInt IntKind.u32 z0)) ∧ (True ∧ (((((0 : Int) ≤ z3) ∧ (z3 < z5)) ∧ ((((0 : Int) ≤ (cellInt z0)) ∧ ((cellInt z0) < z8)) ∧ (z5 < z8))) ∧ (True ∧ (True ∧ (True ∧ (z7 ∧ ((((1 : Nat) = (1 : Nat)) ∧ ((z2 + (1 : Nat)) ≤ (List.length z4))) ∧ (True ∧ (True ∧ (True ∧ (True ∧ (∃ (y : Nat), ((y < k) ∧ ((y ≤ n) ∧ (((z6 = z6) ∧ ((z9 = z9) ∧ (((Option.some (D.v (Value.int IntKind.u32 (z10 % z5)))) = (Option.some (D.v (Value.int IntKind.u32 (((remT zs n d y) : Nat) : Int))))) ∧ (((Option.some (D.v (Value.int IntKind.i64 (IntKind.wrap IntKind.i64 (z1 - (1 : Int)))))) = (Option.some (D.v (Value.int IntKind.i64 (((y : Nat) : Int) - (1 : Int)))))) ∧ True)))) ∧ ([(Option.some (Blk.mk (41 : Nat) (List.set z4 z2 (D.v (Value.int IntKind.u32 (z10 / z5)))) full))] = [(Option.some (Blk.mk (41 : Nat) (u32s (divT zs n d y)) full))]))))))))))))))))))))))) (∃ (r : Unit), (True ∧ ((z11 = z11) ∧ ((((Option.some (D.v (Value.int IntKind.u32 z3))) = (Option.some (D.v (Value.int IntKind.u32 (((remT zs n d (0 : Nat)) : Nat) : Int))))) ∧ True) ∧ ([(Option.some (Blk.mk (41 : Nat) z4 full))] = [(Option.some (Blk.mk (41 : Nat) (u32s (divT zs n d (0 : Nat))) full))]))))))))) (by kernel_rfl) ?_
  simp only [true_and, and_true, and_self, IsInt_lit, IsBool_lit, IsStr_lit, Bool.not_eq_true', Bool.not_eq_false', Bool.not_true, Bool.not_false, Int.reduceLE, Int.reduceLT, Int.reduceNeg, Nat.le_refl, Int.le_refl, Nat.reduceLT, Nat.reduceLeDiff, Nat.reduceEqDiff, D.v.injEq, D.tup.injEq, D.agg.injEq, D.ro.injEq, List.cons.injEq, Value.int.injEq, Value.bool.injEq, pcond_true, pcond_false, NamelessL, Nameless, Nat.reduceMul, Nat.reduceAdd, Nat.zero_add, Int.toNat_natCast]
  obtain ⟨⟨hl, hb⟩, hz, hd, hd2⟩ := hpre
  refine pcond_intro (fun h => ?_) (fun h => ?_)
  · simp only [decide_eq_true_eq] at h
    obtain ⟨j, rfl⟩ : ∃ j, k = j + 1 := ⟨k - 1, by omega⟩
    have e : ((j + 1 : Nat) : Int) - 1 = (j : Int) := by omega
    have w : IntKind.i64.wrap ((j : Int) - 1) = (j : Int) - 1 := wrap_i64_of (by omega) (by omega)
    have hlen := divT_length (d := d) (k := j + 1) hl (by omega)
    have hg := divT_get (d := d) (k := j) hl (by omega)
    have hs := divT_set (k := j) hz hl hd (by omega)
    have hr := remT_succ (zs := zs) (d := d) (show j < n by omega)
    have hrl := remT_lt (zs := zs) (n := n) (k := j + 1) hd
    have hx := hz.get j
    have hq : ((remT zs n d (j + 1) : Nat) * 4294967296 + (zs.getD j 0 : Nat) : Int) / (d : Nat) = (((remT zs n d (j + 1) * 4294967296 + zs.getD j 0) / d : Nat) : Int) := by
      rw [Int.natCast_ediv]; congr 1
    have hm : ((remT zs n d (j + 1) : Nat) * 4294967296 + (zs.getD j 0 : Nat) : Int) % (d : Nat) = (((remT zs n d (j + 1) * 4294967296 + zs.getD j 0) % d : Nat) : Int) := by
      rw [Int.natCast_emod]; congr 1
    simp only [e, w, Nat.mul_one, Int.toNat_natCast, u32s_cell, u32s_length, hlen, hg, hq, hm, u32s_isInt (divT zs n d (j + 1)) j (by omega), u32s_put, hs, hr]
    refine ⟨⟨by omega, by omega⟩, ⟨by omega, trivial⟩, ⟨⟨by omega, by omega⟩, ⟨by omega, by omega⟩, by omega⟩, ⟨by omega, by omega⟩, by omega, j, by omega, by omega, ⟨rfl, rfl⟩, rfl⟩
  · simp only [decide_eq_false_iff_not] at h
    have h : k = 0 := by omega
    subst h
    exact ⟨(), rfl, rfl⟩
theorem digE_mut (full : Bool) (zs : List Nat) (n d : Nat) (hpre : (n ≤ zs.length ∧ zs.length ≤ 1000000) ∧ Dig zs ∧ 0 < d ∧ d < 4294967296) : MutJ Try.prog 88 0 n (.toEnd 1) [.v (.int .u32 (d : Int))] ⟨41, u32s zs, full⟩ (.v (.int .u32 (nv (zs.take n) % d : Nat))) ⟨41, u32s (dgn n (nv (zs.take n) / d) ++ zs.drop n), full⟩ := by
  refine mutJ_of_vcx (call := noCalls) (lp := fun k' => bif Nat.beq k' 3 then some (lp_digE full zs n d) else none) (N := 10) T_ok mixed noCalls_ok Try.func88 rfl (by decide) (by kernel_rfl) (by kernel_rfl)
    (of_eq (B := LRule Try.prog Try.f88.ntmps (loopAt ((Try.f88.body).getD .skip) 3) (lp_digE full zs n d) ∧ True) (by kernel_rfl) ⟨digE_rule full zs n d hpre, trivial⟩) (by simp [NamelessL, Nameless]) (by simp [Nameless]) (u32s_nameless _) (u32s_nameless _) ?_
  refine of_eq (B := letI z0 := (Option.some (D.sl (0 : Nat) (0 : Nat) n (Cap.toEnd (1 : Nat)))); letI z1 := (Option.some (D.v (Value.int IntKind.u32 ((d : Nat) : Int)))); letI z2 := (((n : Nat) : Int) - (1 : Int)); letI z3 := (nv (List.take n zs)); (True ∧ (True ∧ (True ∧ (True ∧ (True ∧ (True ∧ ((n ≤ n) ∧ (((z0 = z0) ∧ ((z1 = z1) ∧ (((Option.some (D.v (Value.int IntKind.u32 (0 : Int)))) = (Option.some (D.v (Value.int IntKind.u32 (((remT zs n d n) : Nat) : Int))))) ∧ (((Option.some (D.v (Value.int IntKind.i64 (IntKind.wrap IntKind.i64 z2)))) = (Option.some (D.v (Value.int IntKind.i64 z2)))) ∧ True)))) ∧ (([(Option.some (Blk.mk (41 : Nat) (u32s zs) full))] = [(Option.some (Blk.mk (41 : Nat) (u32s (divT zs n d n)) full))]) ∧ (Unit → (True → (True ∧ (True ∧ (True ∧ (((D.v (Value.int IntKind.u32 (((remT zs n d (0 : Nat)) : Nat) : Int))) = (D.v (Value.int IntKind.u32 (((z3 % d) : Nat) : Int)))) ∧ ([(Option.some (Blk.mk (41 : Nat) (u32s (divT zs n d (0 : Nat))) full))] = [(Option.some (Blk.mk (41 : Nat) (u32s ((dgn n (z3 / d)) ++ (List.drop n zs))) full))]))))))))))))))))) (by kernel_rfl) ?_
  simp only [true_and, and_true, and_self, IsInt_lit, IsBool_lit, IsStr_lit, Bool.not_eq_true', Bool.not_eq_false', Bool.not_true, Bool.not_false, Int.reduceLE, Int.reduceLT, Int.reduceNeg, Nat.le_refl, Int.le_refl, Nat.reduceLT, Nat.reduceLeDiff, Nat.reduceEqDiff, D.v.injEq, D.tup.injEq, D.agg.injEq, D.ro.injEq, List.cons.injEq, Value.int.injEq, Value.bool.injEq, pcond_true, pcond_false, NamelessL, Nameless, Nat.reduceMul, Nat.reduceAdd, Nat.zero_add, Int.toNat_natCast]
  obtain ⟨⟨hl, hb⟩, hz, hd, hd2⟩ := hpre
  obtain ⟨e1, e2⟩ := divT_start (d := d) hl
  obtain ⟨e3, e4⟩ := divT_end zs n d
  have hw : IntKind.i64.wrap ((n : Int) - 1) = (n : Int) - 1 := wrap_i64_of (by omega) (by omega)
  simp only [e1, e2, e3, e4, hw, true_and, and_true, and_self, IsInt_lit, IsBool_lit, IsStr_lit, Bool.not_eq_true', Bool.not_eq_false', Bool.not_true, Bool.not_false, Int.reduceLE, Int.reduceLT, Int.reduceNeg, Nat.le_refl, Int.le_refl, Nat.reduceLT, Nat.reduceLeDiff, Nat.reduceEqDiff, D.v.injEq, D.tup.injEq, D.agg.injEq, D.ro.injEq, List.cons.injEq, Value.int.injEq, Value.bool.injEq, pcond_true, pcond_false, NamelessL, Nameless, Nat.reduceMul, Nat.reduceAdd, Nat.zero_add, Int.toNat_natCast]
  simp
def d_sX (n : Nat) : D := .sl 0 0 n (.exact n 1)
def lp_digX (full : Bool) (zs : List Nat) (n d : Nat) : LoopO := loopRuleD (α := Nat) (β := Unit) (fun k => k ≤ n)
  (fun k => [(0, d_sX n), (1, .v (.int .u32 (d : Int))), (5, .v (.int .u32 (remT zs n d k : Nat))), (6, .v (.int .i64 ((k : Int) - 1)))])
  (fun k => d_zb full (divT zs n d k)) n (fun _ => True) (fun _ => (.exit 0, [(5, .v (.int .u32 (remT zs n d 0 : Nat)))], d_zb full (divT zs n d 0)))
theorem digX_rule (full : Bool) (zs : List Nat) (n d : Nat) (hpre : (n ≤ zs.length ∧ zs.length ≤ 1000000) ∧ Dig zs ∧ 0 < d ∧ d < 4294967296) : LRule Try.prog Try.f88.ntmps (loopAt ((Try.f88.body).getD .skip) 3) (lp_digX full zs n d) := by
  refine lruleD_of (α := Nat) (β := Unit) (call := addPure 122 ent_idiv32 noCalls) (lp := fun _ => none) (N := 10) T_ok mixed (addPure_ok ent_idiv32_ok noCalls_ok) (fun k => k) (by kernel_rfl) (LpAll.none _) ?_
  intro k hJ
  refine of_eq (B := letI z4 := (u32s (divT zs n d k)); letI z1 := (((k : Nat) : Int) - (1 : Int)); letI z2 := ((0 : Nat) + ((Int.toNat z1) * (1 : Nat))); letI z0 := (List.getD z4 z2 (Inhabited.default)); letI z3 := (((remT zs n d k) : Nat) : Int); letI z5 := ((d : Nat) : Int); letI z6 := (Option.some (D.sl (0 : Nat) (0 : Nat) n (Cap.exact n (1 : Nat)))); letI z7 := (((0 : Int) ≤ z1) ∧ (z1 < ((n : Nat) : Int))); letI z8 := (4294967296 : Int); letI z9 := (Option.some (D.v (Value.int IntKind.u32 z5))); letI z10 := ((z3 * z8) + (cellInt z0)); letI z11 := (Exit.exit (0 : Nat)); (True ∧ (True ∧ (pcond (Decidable.decide ((0 : Int) ≤ z1)) (True ∧ (True ∧ (True ∧ (True ∧ (True ∧ (z7 ∧ (((z2 < (List.length z4)) ∧ (IsInt IntKind.u32 z0)) ∧ (True ∧ (((((0 : Int) ≤ z3) ∧ (z3 < z5)) ∧ ((((0 : Int) ≤ (cellInt z0)) ∧ ((cellInt z0) < z8)) ∧ (z5 < z8))) ∧ (True ∧ (True ∧ (True ∧ (z7 ∧ ((((1 : Nat) = (1 : Nat)) ∧ ((z2 + (1 : Nat)) ≤ (List.length z4))) ∧ (True ∧ (True ∧ (True ∧ (True ∧ (∃ (y : Nat), ((y < k) ∧ ((y ≤ n) ∧ (((z6 = z6) ∧ ((z9 = z9) ∧ (((Option.some (D.v (Value.int IntKind.u32 (z10 % z5)))) = (Option.some (D.v (Value.int IntKind.u32 (((remT zs n d y) : Nat) : Int))))) ∧ (((Option.some (D.v (Value.int IntKind.i64 (IntKind.wrap IntKind.i64 (z1 - (1 : Int)))))) = (Option.some (D.v (Value.int IntKind.i64 (((y : Nat) : Int) - (1 : Int)))))) ∧ True)))) ∧ ([(Option.some (Blk.mk (41 : Nat) (List.set z4 z2 (D.v (Value.int IntKind.u32 (z10 / z5)))) full))] = [(Option.some (Blk.mk (41 : Nat) (u32s (divT zs n d y)) full))]))))))))))))))))))))))) (∃ (r : Unit), (True ∧ ((z11 = z11) ∧ ((((Option.some (D.v (Value.int IntKind.u32 z3))) = (Option.some (D.v (Value.int IntKind.u32 (((remT zs n d (0 : Nat)) : Nat) : Int))))) ∧ True) ∧ ([(Option.some (Blk.mk (41 : Nat) z4 full))] = [(Option.some (Blk.mk (41 : Nat) (u32s (divT zs n d (0 : Nat))) full))]))))))))) (by kernel_rfl) ?_
  simp only [true_and, and_true, and_self, IsInt_lit, IsBool_lit, IsStr_lit, Bool.not_eq_true', Bool.not_eq_false', Bool.not_true, Bool.not_false, Int.reduceLE, Int.reduceLT, Int.reduceNeg, Nat.le_refl, Int.le_refl, Nat.reduceLT, Nat.reduceLeDiff, Nat.reduceEqDiff, D.v.injEq, D.tup.injEq, D.agg.injEq, D.ro.injEq, List.cons.injEq, Value.int.injEq, Value.bool.injEq, pcond_true, pcond_false, NamelessL, Nameless, Nat.reduceMul, Nat.reduceAdd, Nat.zero_add, Int.toNat_natCast]
  obtain ⟨⟨hl, hb⟩, hz, hd, hd2⟩ := hpre
  refine pcond_intro (fun h => ?_) (fun h => ?_)
  · simp only [decide_eq_true_eq] at h
    obtain ⟨j, rfl⟩ : ∃ j, k = j + 1 := ⟨k - 1, by omega⟩
    have e : ((j + 1 : Nat) : Int) - 1 = (j : Int) := by omega
    have w : IntKind.i64.wrap ((j : Int) - 1) = (j : Int) - 1 := wrap_i64_of (by omega) (by omega)
    have hlen := divT_length (d := d) (k := j + 1) hl (by omega)
    have hg := divT_get (d := d) (k := j) hl (by omega)
    have hs := divT_set (k := j) hz hl hd (by omega)
    have hr := remT_succ (zs := zs) (d := d) (show j < n by omega)
    have hrl := remT_lt (zs := zs) (n := n) (k := j + 1) hd
    have hx := hz.get j
    have hq : ((remT zs n d (j + 1) : Nat) * 4294967296 + (zs.getD j 0 : Nat) : Int) / (d : Nat) = (((remT zs n d (j + 1) * 4294967296 + zs.getD j 0) / d : Nat) : Int) := by
      rw [Int.natCast_ediv]; congr 1
    have hm : ((remT zs n d (j + 1) : Nat) * 4294967296 + (zs.getD j 0 : Nat) : Int) % (d : Nat) = (((remT zs n d (j + 1) * 4294967296 + zs.getD j 0) % d : Nat) : Int) := by
      rw [Int.natCast_emod]; congr 1
    simp only [e, w, Nat.mul_one, Int.toNat_natCast, u32s_cell, u32s_length, hlen, hg, hq, hm, u32s_isInt (divT zs n d (j + 1)) j (by omega), u32s_put, hs, hr]
    refine ⟨⟨by omega, by omega⟩, ⟨by omega, trivial⟩, ⟨⟨by omega, by omega⟩, ⟨by omega, by omega⟩, by omega⟩, ⟨by omega, by omega⟩, by omega, j, by omega, by omega, ⟨rfl, rfl⟩, rfl⟩
  · simp only [decide_eq_false_iff_not] at h
    have h : k = 0 := by omega
    subst h
    exact ⟨(), rfl, rfl⟩
theorem digX_mut (full : Bool) (zs : List Nat) (n d : Nat) (hpre : (n ≤ zs.length ∧ zs.length ≤ 1000000) ∧ Dig zs ∧ 0 < d ∧ d < 4294967296) : MutJ Try.prog 88 0 n (.exact n 1) [.v (.int .u32 (d : Int))] ⟨41, u32s zs, full⟩ (.v (.int .u32 (nv (zs.take n) % d : Nat))) ⟨41, u32s (dgn n (nv (zs.take n) / d) ++ zs.drop n), full⟩ := by
  refine mutJ_of_vcx (call := noCalls) (lp := fun k' => bif Nat.beq k' 3 then some (lp_digX full zs n d) else none) (N := 10) T_ok mixed noCalls_ok Try.func88 rfl (by decide) (by kernel_rfl) (by kernel_rfl)
    (of_eq (B := LRule Try.prog Try.f88.ntmps (loopAt ((Try.f88.body).getD .skip) 3) (lp_digX full zs n d) ∧ True) (by kernel_rfl) ⟨digX_rule full zs n d hpre, trivial⟩) (by simp [NamelessL, Nameless]) (by simp [Nameless]) (u32s_nameless _) (u32s_nameless _) ?_
  refine of_eq (B := letI z0 := (Option.some (D.sl (0 : Nat) (0 : Nat) n (Cap.exact n (1 : Nat)))); letI z1 := (Option.some (D.v (Value.int IntKind.u32 ((d : Nat) : Int)))); letI z2 := (((n : Nat) : Int) - (1 : Int)); letI z3 := (nv (List.take n zs)); (True ∧ (True ∧ (True ∧ (True ∧ (True ∧ (True ∧ ((n ≤ n) ∧ (((z0 = z0) ∧ ((z1 = z1) ∧ (((Option.some (D.v (Value.int IntKind.u32 (0 : Int)))) = (Option.some (D.v (Value.int IntKind.u32 (((remT zs n d n) : Nat) : Int))))) ∧ (((Option.some (D.v (Value.int IntKind.i64 (IntKind.wrap IntKind.i64 z2)))) = (Option.some (D.v (Value.int IntKind.i64 z2)))) ∧ True)))) ∧ (([(Option.some (Blk.mk (41 : Nat) (u32s zs) full))] = [(Option.some (Blk.mk (41 : Nat) (u32s (divT zs n d n)) full))]) ∧ (Unit → (True → (True ∧ (True ∧ (True ∧ (((D.v (Value.int IntKind.u32 (((remT zs n d (0 : Nat)) : Nat) : Int))) = (D.v (Value.int IntKind.u32 (((z3 % d) : Nat) : Int)))) ∧ ([(Option.some (Blk.mk (41 : Nat) (u32s (divT zs n d (0 : Nat))) full))] = [(Option.some (Blk.mk (41 : Nat) (u32s ((dgn n (z3 / d)) ++ (List.drop n zs))) full))]))))))))))))))))) (by kernel_rfl) ?_
  simp only [true_and, and_true, and_self, IsInt_lit, IsBool_lit, IsStr_lit, Bool.not_eq_true', Bool.not_eq_false', Bool.not_true, Bool.not_false, Int.reduceLE, Int.reduceLT, Int.reduceNeg, Nat.le_refl, Int.le_refl, Nat.reduceLT, Nat.reduceLeDiff, Nat.reduceEqDiff, D.v.injEq, D.tup.injEq, D.agg.injEq, D.ro.injEq, List.cons.injEq, Value.int.injEq, Value.bool.injEq, pcond_true, pcond_false, NamelessL, Nameless, Nat.reduceMul, Nat.reduceAdd, Nat.zero_add, Int.toNat_natCast]
  obtain ⟨⟨hl, hb⟩, hz, hd, hd2⟩ := hpre
  obtain ⟨e1, e2⟩ := divT_start (d := d) hl
  obtain ⟨e3, e4⟩ := divT_end zs n d
  have hw : IntKind.i64.wrap ((n : Int) - 1) = (n : Int) - 1 := wrap_i64_of (by omega) (by omega)
  simp only [e1, e2, e3, e4, hw, true_and, and_true, and_self, IsInt_lit, IsBool_lit, IsStr_lit, Bool.not_eq_true', Bool.not_eq_false', Bool.not_true, Bool.not_false, Int.reduceLE, Int.reduceLT, Int.reduceNeg, Nat.le_refl, Int.le_refl, Nat.reduceLT, Nat.reduceLeDiff, Nat.reduceEqDiff, D.v.injEq, D.tup.injEq, D.agg.injEq, D.ro.injEq, List.cons.injEq, Value.int.injEq, Value.bool.injEq, pcond_true, pcond_false, NamelessL, Nameless, Nat.reduceMul, Nat.reduceAdd, Nat.zero_add, Int.toNat_natCast]
  simp
def entm_dig : EntM := fun off n c plain blk => match c, plain, blk with
  | .toEnd 1, [.v (.int .u32 d)], ⟨ty, cs, full⟩ => some (.v (.int .u32 (nv ((unu cs).take n) % d.toNat : Nat)), ⟨ty, u32s (dgn n (nv ((unu cs).take n) / d.toNat) ++ (unu cs).drop n), full⟩,
      ((ty = 41 ∧ off = 0) ∧ cs = u32s (unu cs)) ∧ (0 < d ∧ d < 4294967296) ∧ (n ≤ (unu cs).length ∧ (unu cs).length ≤ 1000000) ∧ Dig (unu cs))
  | .exact cap 1, [.v (.int .u32 d)], ⟨ty, cs, full⟩ => some (.v (.int .u32 (nv ((unu cs).take n) % d.toNat : Nat)), ⟨ty, u32s (dgn n (nv ((unu cs).take n) / d.toNat) ++ (unu cs).drop n), full⟩,
      ((ty = 41 ∧ off = 0) ∧ cs = u32s (unu cs) ∧ cap = n) ∧ (0 < d ∧ d < 4294967296) ∧ (n ≤ (unu cs).length ∧ (unu cs).length ≤ 1000000) ∧ Dig (unu cs))
  | _, _, _ => none
theorem entm_dig_ok : EntMOk Try.prog 88 entm_dig := by
  intro off n c plain blk d blk' p h hp
  unfold entm_dig at h
  split at h
  · rename_i dv ty cs full
    simp only [Option.some.injEq, Prod.mk.injEq] at h
    obtain ⟨rfl, rfl, rfl⟩ := h
    obtain ⟨⟨⟨rfl, rfl⟩, hcs⟩, ⟨hd0, hd⟩, hl, hz⟩ := hp
    obtain ⟨dv, rfl⟩ := Int.eq_ofNat_of_zero_le (show 0 ≤ dv by omega)
    generalize unu cs = zs at *
    subst hcs
    simp only [Int.ofNat_eq_natCast, Int.toNat_natCast] at *
    exact digE_mut full zs n dv ⟨hl, hz, by omega, by omega⟩
  · rename_i cap dv ty cs full
    simp only [Option.some.injEq, Prod.mk.injEq] at h
    obtain ⟨rfl, rfl, rfl⟩ := h
    obtain ⟨⟨⟨rfl, rfl⟩, hcs, rfl⟩, ⟨hd0, hd⟩, hl, hz⟩ := hp
    obtain ⟨dv, rfl⟩ := Int.eq_ofNat_of_zero_le (show 0 ≤ dv by omega)
    generalize unu cs = zs at *
    subst hcs
    simp only [Int.ofNat_eq_natCast, Int.toNat_natCast] at *
    exact digX_mut full zs _ dv ⟨hl, hz, by omega, by omega⟩
  · cases h
end Go.Proofs.Ythnhfkpihbjddaa
end
