import Derived.Test.YthnhfkpihbjddaaZKw19
import Derived.Test.YthnhfkpihbjddaaZKw20
import Derived.Test.YthnhfkpihbjddaaZKw14
section
namespace Go.Proofs.Ythnhfkpihbjddaa
open Go.VD
set_option linter.unusedVariables false
set_option linter.unusedSimpArgs false
set_option maxRecDepth 100000
def dsh (ys : List Nat) : Nat := 32 - bl (ys.getD (ys.length - 1) 0)
def dvs (ys : List Nat) : List Nat := dg (nv ys * 2 ^ dsh ys)
def dHyp (xs ys : List Nat) : Prop := ((xs.length ≤ 100000 ∧ ys.length ≤ 100000) ∧ xs = dg (nv xs) ∧ ys = dg (nv ys)) ∧ 0 < nv ys
def dHyp2 (xs ys : List Nat) : Prop := dHyp xs ys ∧ 2 ≤ ys.length ∧ ys.length ≤ xs.length
def dU0 (xs ys : List Nat) : List Nat := dgn (xs.length + 1) (nv xs * 2 ^ dsh ys)
def dM (xs ys : List Nat) : Nat := xs.length - ys.length + 1
theorem div_facts {xs ys : List Nat} (h : dHyp2 xs ys) : (nv (dvs ys) = nv ys * 2 ^ dsh ys ∧ (dvs ys).length = ys.length) ∧ (2147483648 ≤ (dvs ys).getD ((dvs ys).length - 1) 0 ∧ 0 < nv (dvs ys)) ∧ (nv (dvs ys) < 4294967296 ^ ys.length ∧ 4294967296 ^ ys.length ≤ 2 * nv (dvs ys)) ∧ dsh ys < 32 ∧ (ys.length + dM xs ys = xs.length + 1 ∧ Dig xs ∧ Dig ys ∧ Dig (dvs ys)) := by
  obtain ⟨⟨⟨⟨hlx, hly⟩, gx, gy⟩, h0⟩, h2, hle⟩ := h
  obtain ⟨⟨a1, a2⟩, a3, a4, a5, a6⟩ := norm_facts gy h0
  have hv : nv (dvs ys) = nv ys * 2 ^ dsh ys := nv_dg _
  have hpp := pow_pos32 ys.length
  refine ⟨⟨hv, a2⟩, ⟨?_, by rw [hv]; unfold dsh; omega⟩, ⟨by rw [hv]; exact a5, by rw [hv]; exact a6⟩, a1, by unfold dM; omega, by rw [gx]; exact dg_dig _, by rw [gy]; exact dg_dig _, dg_dig _⟩
  have : (dvs ys).length = ys.length := a2
  rw [this]; exact a3
def lp_divLoop (xs ys : List Nat) : LoopO := loopRule (α := Nat × List Nat × List Nat) (β := List Nat × List Nat) [some 0, some 2] (fun s => (s.1 ≤ dM xs ys ∧ s.2.1.length = xs.length + 1 ∧ Dig s.2.1) ∧ s.2.1.take (s.1 + ys.length) = (dU0 xs ys).take s.1 ++ dgn ys.length (nv xs * 2 ^ dsh ys / 4294967296 ^ s.1 % nv (dvs ys)) ∧ s.2.2 = List.replicate s.1 0 ++ dgn (dM xs ys - s.1) (nv xs * 2 ^ dsh ys / 4294967296 ^ s.1 / nv (dvs ys))) (fun s => [(4, .sl 1 0 (dM xs ys) (.toEnd 1)), (7, .v (.int .i64 (dsh ys : Nat))), (8, .sl 0 0 (xs.length + 1) (.toEnd 1)), (9, .ro (dvs ys).length (u32s (dvs ys))), (10, .v (.int .i64 ((s.1 : Int) - 1)))]) (fun s => [some ⟨41, u32s s.2.1, true⟩, some ⟨41, u32s s.2.2, true⟩]) ((dM xs ys, dU0 xs ys, List.replicate (dM xs ys) 0)) (fun r => (r.1.length = xs.length + 1 ∧ Dig r.1 ∧ r.1.take ys.length = dgn ys.length (nv xs * 2 ^ dsh ys % nv (dvs ys))) ∧ r.2 = dgn (dM xs ys) (nv xs * 2 ^ dsh ys / nv (dvs ys))) (fun r => (.exit 0, [(4, .sl 1 0 (dM xs ys) (.toEnd 1)), (7, .v (.int .i64 (dsh ys : Nat))), (8, .sl 0 0 (xs.length + 1) (.toEnd 1)), (9, .ro (dvs ys).length (u32s (dvs ys)))], [some ⟨41, u32s r.1, true⟩, some ⟨41, u32s r.2, true⟩]))
theorem divLoop_rule (xs ys : List Nat) (hpre : dHyp2 xs ys) : LRuleP Try.prog Try.f51.ntmps (loopAt ((Try.f51.body).getD .skip) 11) (lp_divLoop xs ys) := by
  refine lrule_of (α := Nat × List Nat × List Nat) (β := List Nat × List Nat) (call := (addMut 93 entm_qdig noCalls)) (lp := fun _ => none) (N := 10) T_ok mixed (addMut_ok entm_qdig_ok noCalls_ok) (fun s => s.1) (by kernel_rfl) (LpAllP.none _) ?_
  intro x hJ
  refine of_eq (B := letI z1 := ((((Prod.fst x) : Nat) : Int) - (1 : Int)); letI z17 := (List.length (dvs ys)); letI z0 := (IntKind.wrap IntKind.i64 ((IntKind.wrap IntKind.i64 (z1 + ((z17 : Nat) : Int))) + (1 : Int))); letI z10 := ((List.length xs) + (1 : Nat)); letI z23 := (Cap.toEnd (1 : Nat)); letI z2 := (Prod.mk (8 : Nat) (D.sl (0 : Nat) (0 : Nat) z10 z23)); letI z3 := (Prod.mk (4 : Nat) (D.sl (1 : Nat) (0 : Nat) (dM xs ys) z23)); letI z4 := (Prod.mk (7 : Nat) (D.v (Value.int IntKind.i64 (((dsh ys) : Nat) : Int)))); letI z20 := (u32s (dvs ys)); letI z5 := (Prod.mk (9 : Nat) (D.ro z17 z20)); letI z6 := ((0 : Nat) + ((Int.toNat z1) * (1 : Nat))); letI z7 := (u32s (Prod.fst (Prod.snd x))); letI z8 := (unu z20); letI z9 := ((nv xs) * ((2 : Nat) ^ (dsh ys))); letI z11 := (Prod (List Nat) (List Nat)); letI z12 := List.length z8; letI z13 := ((Int.toNat z0) - (Int.toNat z1)); letI z14 := (u32s (Prod.snd (Prod.snd x))); letI z15 := (Exit.exit (0 : Nat)); letI z16 := List.length ys; letI z18 := (uS z6 (unu z7) (z12 + (1 : Nat))); letI z19 := (((Int.toNat z0) : Nat) : Int); letI z21 := Bool.true = Bool.true; letI z22 := ((1 : Nat) = (1 : Nat)); letI z24 := (List (Option Nat)); (True ∧ (True ∧ (pcond (Decidable.decide ((0 : Int) ≤ z1)) (True ∧ (True ∧ (True ∧ (True ∧ (True ∧ (True ∧ (True ∧ (True ∧ (True ∧ (True ∧ (True ∧ (True ∧ ((((((0 : Int) ≤ z1) ∧ (z1 ≤ z19)) ∧ ((((0 : Int) ≤ z0) ∧ (z0 ≤ z19)) ∧ (((0 : Int) ≤ z0) ∧ ((z0 ≤ ((z10 : Nat) : Int)) ∧ z21)))) ∧ z22) ∧ (True ∧ ((((((41 : Nat) = (41 : Nat)) ∧ z21) ∧ ((z7 = (u32s (unu z7))) ∧ (z20 = (u32s z8)))) ∧ ((((z13 = z13) ∧ (z13 = (z12 + (1 : Nat)))) ∧ (z17 = z12)) ∧ (qHyp z6 (unu z7) z8))) ∧ ((((0 : Int) ≤ z1) ∧ (z1 < (((dM xs ys) : Nat) : Int))) ∧ ((z22 ∧ ((z6 + (1 : Nat)) ≤ (List.length z14))) ∧ (True ∧ (True ∧ (True ∧ (∃ (y : (Prod Nat z11)), (∃ (kp : z24), (((Prod.fst y) < (Prod.fst x)) ∧ (((((Prod.fst y) ≤ (dM xs ys)) ∧ (((List.length (Prod.fst (Prod.snd y))) = z10) ∧ (Dig (Prod.fst (Prod.snd y))))) ∧ (((List.take ((Prod.fst y) + z16) (Prod.fst (Prod.snd y))) = ((List.take (Prod.fst y) (dU0 xs ys)) ++ (dgn z16 ((z9 / ((4294967296 : Nat) ^ (Prod.fst y))) % (nv (dvs ys)))))) ∧ ((Prod.snd (Prod.snd y)) = ((List.replicate (Prod.fst y) (0 : Nat)) ++ (dgn ((dM xs ys) - (Prod.fst y)) ((z9 / ((4294967296 : Nat) ^ (Prod.fst y))) / (nv (dvs ys)))))))) ∧ (viewAll kp [z3, z4, z2, z5, (Prod.mk (10 : Nat) (D.v (Value.int IntKind.i64 (IntKind.wrap IntKind.i64 (z1 - (1 : Int))))))] [(Option.some (Blk.mk (41 : Nat) (u32s ((List.take z6 (unu z7)) ++ ((dgn z12 (z18 % (nv z8))) ++ (List.drop (z6 + z12) (unu z7))))) Bool.true)), (Option.some (Blk.mk (41 : Nat) (List.set z14 z6 (D.v (Value.int IntKind.u32 (((z18 / (nv z8)) : Nat) : Int)))) Bool.true))] [z3, z4, z2, z5, (Prod.mk (10 : Nat) (D.v (Value.int IntKind.i64 ((((Prod.fst y) : Nat) : Int) - (1 : Int)))))] [(Option.some (Blk.mk (41 : TypeId) (u32s (Prod.fst (Prod.snd y))) Bool.true)), (Option.some (Blk.mk (41 : TypeId) (u32s (Prod.snd (Prod.snd y))) Bool.true))]))))))))))))))))))))))))) (∃ (r : z11), (∃ (kp : z24), (((((List.length (Prod.fst r)) = z10) ∧ ((Dig (Prod.fst r)) ∧ ((List.take z16 (Prod.fst r)) = (dgn z16 (z9 % (nv (dvs ys))))))) ∧ ((Prod.snd r) = (dgn (dM xs ys) (z9 / (nv (dvs ys)))))) ∧ ((z15 = z15) ∧ (viewAll kp [z3, z4, z2, z5] [(Option.some (Blk.mk (41 : Nat) z7 Bool.true)), (Option.some (Blk.mk (41 : Nat) z14 Bool.true))] (Prod.fst (Prod.snd ((fun (r_1 : z11) => (Prod.mk z15 (Prod.mk [z3, z4, z2, z5] [(Option.some (Blk.mk (41 : TypeId) (u32s (Prod.fst r_1)) Bool.true)), (Option.some (Blk.mk (41 : TypeId) (u32s (Prod.snd r_1)) Bool.true))]))) r))) (Prod.snd (Prod.snd ((fun (r_1 : z11) => (Prod.mk z15 (Prod.mk [z3, z4, z2, z5] [(Option.some (Blk.mk (41 : TypeId) (u32s (Prod.fst r_1)) Bool.true)), (Option.some (Blk.mk (41 : TypeId) (u32s (Prod.snd r_1)) Bool.true))]))) r)))))))))))) (by kernel_rfl) ?_
  obtain ⟨k, us, qs⟩ := x
  obtain ⟨⟨f1, f2⟩, ⟨f3, f4⟩, ⟨f5, f6⟩, f7, f8, dx, dy, dv⟩ := div_facts hpre
  obtain ⟨⟨⟨⟨hlx, hly⟩, gx, gy⟩, h0⟩, h2, hle⟩ := hpre
  simp only at hJ
  obtain ⟨⟨hk, hul, hud⟩, ht, hq⟩ := hJ
  simp only [true_and, and_true, and_self, IsInt_lit, IsBool_lit, IsStr_lit, Bool.not_eq_true', Bool.not_eq_false', Bool.not_true, Bool.not_false, Int.reduceLE, Int.reduceLT, Int.reduceNeg, Nat.le_refl, Int.le_refl, Nat.reduceLT, Nat.reduceLeDiff, Nat.reduceEqDiff, D.v.injEq, D.tup.injEq, D.agg.injEq, D.ro.injEq, List.cons.injEq, Value.int.injEq, Value.bool.injEq, pcond_true, pcond_false, NamelessL, Nameless, Nat.reduceMul, Nat.reduceAdd, Nat.zero_add, Int.toNat_natCast, unu_u32s, Nat.mul_one]
  refine pcond_intro (fun h => ?_) (fun h => ?_)
  · simp only [decide_eq_true_eq] at h
    obtain ⟨j, rfl⟩ : ∃ j, k = j + 1 := ⟨k - 1, by omega⟩
    have e0 : ((j + 1 : Nat) : Int) - 1 = (j : Int) := by omega
    have w1 : IntKind.i64.wrap (IntKind.i64.wrap ((j : Int) + (ys.length : Int)) + 1) = ((j + ys.length + 1 : Nat) : Int) := by
      rw [wrap_i64_of (n := (j : Int) + (ys.length : Int)) (by omega) (by omega), wrap_i64_of (by omega) (by omega)]; omega
    have w2 : IntKind.i64.wrap ((j : Int) - 1) = (j : Int) - 1 := wrap_i64_of (by omega) (by omega)
    obtain ⟨g1, g2, g3, g4⟩ := div_round (U0 := dU0 xs ys) (X := nv xs * 2 ^ dsh ys) rfl hul hud (show j + 1 + ys.length ≤ xs.length + 1 by omega) f4 f5 ht
    simp only [e0, w1, w2, Int.toNat_natCast, f2, u32s_length, u32s_put]
    have hql : qs.length = dM xs ys := by rw [hq]; simp [dgn_length]; omega
    have hlen : (us.take j ++ (dgn ys.length (uS j us (ys.length + 1) % nv (dvs ys)) ++ us.drop (j + ys.length))).length = xs.length + 1 := by simp [dgn_length]; omega
    refine ⟨⟨⟨by omega, by omega⟩, ⟨by omega, by omega⟩, by omega, by omega⟩, ⟨by omega, ⟨⟨by omega, by omega⟩, by omega⟩, ⟨hud, dv⟩, f3, by rw [f2]; exact g1⟩, ⟨by omega, by omega⟩, by omega, (j, us.take j ++ (dgn ys.length (uS j us (ys.length + 1) % nv (dvs ys)) ++ us.drop (j + ys.length)), qs.set j (uS j us (ys.length + 1) / nv (dvs ys))), [some 0, some 1], by simp only; omega, ?_, ?_⟩
    · refine ⟨⟨by simp only; omega, hlen, Dig.app.2 ⟨hud.take _, Dig.app.2 ⟨dgn_dig _ _, hud.drop _⟩⟩⟩, g4, ?_⟩
      simp only
      have hd1 : nv xs * 2 ^ dsh ys / 4294967296 ^ (j + 1) / nv (dvs ys) = nv xs * 2 ^ dsh ys / 4294967296 ^ j / nv (dvs ys) / 4294967296 := by
        rw [div_pow_succ, Nat.div_div_eq_div_mul, Nat.div_div_eq_div_mul (nv xs * 2 ^ dsh ys / 4294967296 ^ j), Nat.mul_comm 4294967296]
      rw [hq, hd1, ← g2, q_round, show dM xs ys - (j + 1) + 1 = dM xs ys - j by omega]
    · refine of_eq (B := letI z3 := List.length ys; letI z9 := (uS j us (z3 + (1 : Nat))); letI z0 := (u32s ((List.take j us) ++ ((dgn z3 (z9 % (nv (dvs ys)))) ++ (List.drop (j + z3) us)))); letI z1 := (u32s (List.set qs j (z9 / (nv (dvs ys))))); letI z12 := (Cap.toEnd (1 : Nat)); letI z2 := (D.sl (0 : Nat) (0 : Nat) ((List.length xs) + (1 : Nat)) z12); letI z4 := (D.v (Value.int IntKind.i64 (((j : Nat) : Int) - (1 : Int)))); letI z5 := (D.sl (1 : Nat) (0 : Nat) (dM xs ys) z12); letI z6 := (D.v (Value.int IntKind.i64 (((dsh ys) : Nat) : Int))); letI z7 := (Option.some (Blk.mk (41 : Nat) z0 Bool.true)); letI z8 := (Option.some (Blk.mk (41 : Nat) z1 Bool.true)); letI z10 := (D.ro z3 (u32s (dvs ys))); letI z11 := ([] : List (Option Blk)); ((Bool.true = Bool.true) ∧ ((((z7 = z7) ∧ (NamelessL z0)) ∧ (((z8 = z8) ∧ (NamelessL z1)) ∧ (z11 = z11))) ∧ ((True ∧ (z5 = z5)) ∧ ((True ∧ (z6 = z6)) ∧ ((True ∧ (z2 = z2)) ∧ ((True ∧ (z10 = z10)) ∧ ((True ∧ (z4 = z4)) ∧ True)))))))) (by kernel_rfl) ?_
      simp [u32s_nameless]
  · simp only [decide_eq_false_iff_not] at h
    have hk0 : k = 0 := by omega
    subst hk0
    simp only [Nat.zero_add, List.take_zero, List.nil_append, Nat.pow_zero, Nat.div_one, List.replicate_zero, Nat.sub_zero] at ht hq
    refine ⟨(us, qs), [some 0, some 1], ⟨⟨hul, hud, ht⟩, hq⟩, ?_⟩
    refine of_eq (B := letI z7 := (Cap.toEnd (1 : Nat)); letI z0 := (D.sl (0 : Nat) (0 : Nat) ((List.length xs) + (1 : Nat)) z7); letI z1 := (D.sl (1 : Nat) (0 : Nat) (dM xs ys) z7); letI z2 := (D.v (Value.int IntKind.i64 (((dsh ys) : Nat) : Int))); letI z3 := (Option.some (Blk.mk (41 : Nat) (u32s us) Bool.true)); letI z4 := (Option.some (Blk.mk (41 : Nat) (u32s qs) Bool.true)); letI z5 := (D.ro (List.length (dvs ys)) (u32s (dvs ys))); letI z6 := ([] : List (Option Blk)); ((Bool.true = Bool.true) ∧ ((((z3 = z3) ∧ (NamelessL (u32s us))) ∧ (((z4 = z4) ∧ (NamelessL (u32s qs))) ∧ (z6 = z6))) ∧ ((True ∧ (z1 = z1)) ∧ ((True ∧ (z2 = z2)) ∧ ((True ∧ (z0 = z0)) ∧ ((True ∧ (z5 = z5)) ∧ True))))))) (by kernel_rfl) ?_
    simp [u32s_nameless]
theorem cmp_canon {xs ys : List Nat} (gx : xs = dg (nv xs)) (gy : ys = dg (nv ys)) : cmpL xs ys = cmpN (nv xs) (nv ys) := by
  have := cmpL_dg (nv xs) (nv ys)
  rwa [← gx, ← gy] at this
theorem idivB_pure (xs ys : List Nat) (hpre : dHyp xs ys ∧ nv xs < nv ys) : PureJ Try.prog 51 [.ro xs.length (u32s xs), .ro ys.length (u32s ys)] (.tup [.ro (dg (nv xs / nv ys)).length (u32s (dg (nv xs / nv ys))), .ro (dg (nv xs % nv ys)).length (u32s (dg (nv xs % nv ys)))]) := by
  refine pureJ_of_vcpN (call := (addPure 65 ent_icompare (addPure 87 ent_iclone noCalls))) (lp := fun _ => none) (N := 10) T_ok mixed (addPure_ok ent_icompare_ok (addPure_ok ent_iclone_ok noCalls_ok)) Try.func51 rfl (by decide) (by kernel_rfl) (by kernel_rfl) (LpAllP.none _) (by first | trivial | (simp only [NamelessL, Nameless, and_self, and_true, true_and]; done) | (simp [NamelessL, Nameless, u32s_nameless, namelessL_ints]; done)) (by first | trivial | (simp only [NamelessL, Nameless, and_self, and_true, true_and]; done) | (simp [NamelessL, Nameless, u32s_nameless, namelessL_ints]; done)) ?_
  refine of_eq (B := letI z3 := (((List.length ys) : Nat) : Int); letI z0 := (IntKind.wrap IntKind.i64 (z3 - (1 : Int))); letI z4 := (unu (u32s xs)); letI z2 := (List.length z4); letI z1 := (((u32s xs) = (u32s z4)) ∧ ((List.length xs) = z2)); letI z5 := (z1 ∧ (z2 ≤ (1000000 : Nat))); letI z6 := ((Int.toNat z0) * (1 : Nat)); letI z7 := (unu (u32s ys)); letI z8 := (dg ((nv xs) / (nv ys))); letI z9 := (dg ((nv xs) % (nv ys))); letI z10 := (List.length (u32s ys)); (True ∧ (True ∧ (True ∧ (True ∧ (((((u32s ys) = (u32s z7)) ∧ ((List.length ys) = (List.length z7))) ∧ (z1 ∧ (z2 ≤ (1000000000000 : Nat)))) ∧ (True ∧ (pcond (Decidable.decide ((cmpL z4 z7) < (0 : Int))) (True ∧ (z5 ∧ (True ∧ (True ∧ (True ∧ ((True ∧ (True ∧ True)) ∧ ((D.tup [(D.ro (0 : Nat) ([] : List D)), (D.ro z2 (u32s z4))]) = (D.tup [(D.ro (List.length z8) (u32s z8)), (D.ro (List.length z9) (u32s z9))])))))))) (True ∧ (True ∧ (True ∧ (pcond (z3 == (1 : Int)) (True ∧ (z5 ∧ (True ∧ (True ∧ (True ∧ ((((0 : Int) ≤ (0 : Int)) ∧ ((0 : Int) < z3)) ∧ ((((0 : Nat) < z10) ∧ (IsInt IntKind.u32 (List.getD (u32s ys) (0 : Nat) (Inhabited.default)))) ∧ False))))))) (True ∧ (True ∧ (True ∧ (True ∧ ((((0 : Int) ≤ z0) ∧ (z0 < z3)) ∧ (((z6 < z10) ∧ (IsInt IntKind.u32 (List.getD (u32s ys) z6 (Inhabited.default)))) ∧ False)))))))))))))))))) (by kernel_rfl) ?_
  simp only [true_and, and_true, and_self, IsInt_lit, IsBool_lit, IsStr_lit, Bool.not_eq_true', Bool.not_eq_false', Bool.not_true, Bool.not_false, Int.reduceLE, Int.reduceLT, Int.reduceNeg, Nat.le_refl, Int.le_refl, Nat.reduceLT, Nat.reduceLeDiff, Nat.reduceEqDiff, D.v.injEq, D.tup.injEq, D.agg.injEq, D.ro.injEq, List.cons.injEq, Value.int.injEq, Value.bool.injEq, pcond_true, pcond_false, NamelessL, Nameless, Nat.reduceMul, Nat.reduceAdd, Nat.zero_add, Int.toNat_natCast, unu_u32s]
  obtain ⟨⟨⟨⟨hlx, hly⟩, gx, gy⟩, h0⟩, hlt⟩ := hpre
  have hc : decide (cmpL xs ys < 0) = true := by rw [cmp_canon gx gy]; simp [cmpN, hlt]
  rw [hc, pcond_true, Nat.div_eq_of_lt hlt, Nat.mod_eq_of_lt hlt, ← gx, dg_zero]
  exact ⟨by omega, by omega, ⟨rfl, rfl⟩, rfl, rfl⟩
def ent_idivB : Ent := fun ds => match ds with
  | [.ro n_xs ys_xs, .ro n_ys ys_ys] => some (.tup [.ro (dg (nv (unu ys_xs) / nv (unu ys_ys))).length (u32s (dg (nv (unu ys_xs) / nv (unu ys_ys)))), .ro (dg (nv (unu ys_xs) % nv (unu ys_ys))).length (u32s (dg (nv (unu ys_xs) % nv (unu ys_ys))))], (ys_ys = u32s (unu ys_ys) ∧ n_ys = (unu ys_ys).length) ∧ (ys_xs = u32s (unu ys_xs) ∧ n_xs = (unu ys_xs).length) ∧ dHyp (unu ys_xs) (unu ys_ys) ∧ nv (unu ys_xs) < nv (unu ys_ys))
  | _ => none
theorem ent_idivB_ok : EntOk Try.prog 51 ent_idivB := by
  intro ds d c h hc; unfold ent_idivB at h; split at h
  · rename_i n_xs ys_xs n_ys ys_ys; obtain ⟨rfl, rfl⟩ := pair_inj h
    obtain ⟨⟨h1, h2⟩, hc⟩ := hc; subst h2; generalize (unu ys_ys) = ys at *; subst h1
    obtain ⟨⟨h1, h2⟩, hc⟩ := hc; subst h2; generalize (unu ys_xs) = xs at *; subst h1
    exact idivB_pure xs ys hc
  · cases h
theorem idivC_pure (xs ys : List Nat) (hpre : dHyp xs ys ∧ nv ys ≤ nv xs ∧ ys.length = 1) : PureJ Try.prog 51 [.ro xs.length (u32s xs), .ro ys.length (u32s ys)] (.tup [.ro (dg (nv xs / nv ys)).length (u32s (dg (nv xs / nv ys))), .ro (dg (nv xs % nv ys)).length (u32s (dg (nv xs % nv ys)))]) := by
  refine pureJ_of_vcpN (call := (addPure 65 ent_icompare (addMake 87 entk_clone (addMut 88 entm_dig (addPure 89 ent_itrim (addPure 66 ent_idigits noCalls)))))) (lp := fun _ => none) (N := 10) T_ok mixed (addPure_ok ent_icompare_ok (addMake_ok entk_clone_ok (addMut_ok entm_dig_ok (addPure_ok ent_itrim_ok (addPure_ok ent_idigits_ok noCalls_ok))))) Try.func51 rfl (by decide) (by kernel_rfl) (by kernel_rfl) (LpAllP.none _) (by first | trivial | (simp only [NamelessL, Nameless, and_self, and_true, true_and]; done) | (simp [NamelessL, Nameless, u32s_nameless, namelessL_ints]; done)) (by first | trivial | (simp only [NamelessL, Nameless, and_self, and_true, true_and]; done) | (simp [NamelessL, Nameless, u32s_nameless, namelessL_ints]; done)) ?_
  refine of_eq (B := letI z6 := List.length xs; letI z8 := (unu (u32s xs)); letI z22 := (nv (List.take z6 z8)); letI z5 := (List.getD (u32s ys) (0 : Nat) (Inhabited.default)); letI z16 := (Int.toNat (cellInt z5)); letI z0 := (u32s ((dgn z6 (z22 / z16)) ++ (List.drop z6 z8))); letI z1 := (IntKind.wrap IntKind.u64 (((z22 % z16) : Nat) : Int)); letI z12 := (z6 * (1 : Nat)); letI z2 := (List.take z12 (List.drop (0 : Nat) z0)); letI z3 := (List.length z8); letI z10 := (((List.length ys) : Nat) : Int); letI z4 := (IntKind.wrap IntKind.i64 (z10 - (1 : Int))); letI z17 := (dg ((nv xs) / (nv ys))); letI z18 := (dg ((nv xs) % (nv ys))); letI z7 := (D.tup [(D.ro (List.length z17) (u32s z17)), (D.ro (List.length z18) (u32s z18))]); letI z11 := ((u32s xs) = (u32s z8)); letI z23 := (z11 ∧ (z6 = z3)); letI z15 := (1000000 : Nat); letI z9 := (z23 ∧ (((0 : Nat) < z3) ∧ (z3 ≤ z15))); letI z13 := ((Int.toNat z4) * (1 : Nat)); letI z14 := (unu (u32s ys)); letI z19 := ((0 : Nat) < (1 : Nat)); letI z20 := (List.length (u32s ys)); letI z21 := (List.length (unu z2)); letI z24 := (dg (Int.toNat z1)); (True ∧ (True ∧ (True ∧ (True ∧ (((((u32s ys) = (u32s z14)) ∧ ((List.length ys) = (List.length z14))) ∧ (z23 ∧ (z3 ≤ (1000000000000 : Nat)))) ∧ (True ∧ (pcond (Decidable.decide ((cmpL z8 z14) < (0 : Int))) (True ∧ (z9 ∧ (True ∧ (True ∧ (True ∧ ((True ∧ (((NamelessL (u32s xs)) ∧ (z19 ∧ (((0 : Nat) + z12) ≤ (List.length (u32s xs))))) ∧ True)) ∧ ((D.tup [(D.ro (0 : Nat) ([] : List D)), (D.ro z6 (List.take z12 (List.drop (0 : Nat) (u32s xs))))]) = z7))))))) (True ∧ (True ∧ (True ∧ (pcond (z10 == (1 : Int)) (True ∧ (z9 ∧ (True ∧ (True ∧ (True ∧ ((((0 : Int) ≤ (0 : Int)) ∧ ((0 : Int) < z10)) ∧ ((((0 : Nat) < z20) ∧ (IsInt IntKind.u32 z5)) ∧ ((((((41 : Nat) = (41 : Nat)) ∧ ((0 : Nat) = (0 : Nat))) ∧ z11) ∧ ((((0 : Int) < (cellInt z5)) ∧ ((cellInt z5) < (4294967296 : Int))) ∧ (((z6 ≤ z3) ∧ (z3 ≤ z15)) ∧ (Dig z8)))) ∧ (True ∧ (True ∧ (((((NamelessL z0) ∧ (z19 ∧ (((0 : Nat) + z12) ≤ (List.length z0)))) ∧ True) ∧ (((z2 = (u32s (unu z2))) ∧ (z6 = z21)) ∧ (z21 ≤ z15))) ∧ (True ∧ (True ∧ ((((0 : Int) ≤ z1) ∧ (z1 < (18446744073709551616 : Int))) ∧ (True ∧ (True ∧ (True ∧ ((True ∧ (True ∧ True)) ∧ ((D.tup [(D.ro (List.length (trimL (unu z2))) (u32s (trimL (unu z2)))), (D.ro (List.length z24) (u32s z24))]) = z7))))))))))))))))))) (True ∧ (True ∧ (True ∧ (True ∧ ((((0 : Int) ≤ z4) ∧ (z4 < z10)) ∧ (((z13 < z20) ∧ (IsInt IntKind.u32 (List.getD (u32s ys) z13 (Inhabited.default)))) ∧ False)))))))))))))))))) (by kernel_rfl) ?_
  simp only [true_and, and_true, and_self, IsInt_lit, IsBool_lit, IsStr_lit, Bool.not_eq_true', Bool.not_eq_false', Bool.not_true, Bool.not_false, Int.reduceLE, Int.reduceLT, Int.reduceNeg, Nat.le_refl, Int.le_refl, Nat.reduceLT, Nat.reduceLeDiff, Nat.reduceEqDiff, D.v.injEq, D.tup.injEq, D.agg.injEq, D.ro.injEq, List.cons.injEq, Value.int.injEq, Value.bool.injEq, pcond_true, pcond_false, NamelessL, Nameless, Nat.reduceMul, Nat.reduceAdd, Nat.zero_add, Int.toNat_natCast, unu_u32s]
  obtain ⟨⟨⟨⟨hlx, hly⟩, gx, gy⟩, h0⟩, hle, h1⟩ := hpre
  have dx : Dig xs := by rw [gx]; exact dg_dig _
  have dy : Dig ys := by rw [gy]; exact dg_dig _
  have hc : decide (cmpL xs ys < 0) = false := by rw [cmp_canon gx gy]; unfold cmpN; rw [if_neg (by omega)]; split <;> rfl
  have hc2 : ((ys.length : Int) == 1) = true := by simp; omega
  obtain ⟨y, rfl⟩ : ∃ y, ys = [y] := List.length_eq_one_iff.1 h1
  have hv : nv [y] = y := by simp [nv]
  have hy := dy.get 0
  have hxl : 0 < xs.length := by
    rcases Nat.eq_zero_or_pos xs.length with h | h
    · have : xs = [] := List.eq_nil_of_length_eq_zero h
      subst this
      rw [hv] at hle h0
      rw [nv] at hle; omega
    · exact h
  have hg : ([y] : List Nat).getD 0 0 = y := rfl
  rw [hg] at hy
  rw [hc, hc2, pcond_false, pcond_true]
  rw [hv] at hle h0 ⊢
  have hm := Nat.mod_lt (nv xs) h0
  have w1 : IntKind.u64.wrap ((nv xs % y : Nat) : Int) = ((nv xs % y : Nat) : Int) := wrap_u64_of (Int.natCast_nonneg _) (by omega)
  have e3 : List.take xs.length (u32s (dgn xs.length (nv xs / y))) = u32s (dgn xs.length (nv xs / y)) := by rw [u32s_take, List.take_of_length_le (by rw [dgn_length]; exact Nat.le_refl _)]
  have ht : trimL (dgn xs.length (nv xs / y)) = dg (nv xs / y) := trimL_dgn (Nat.lt_of_le_of_lt (Nat.div_le_self _ _) (nv_lt dx))
  simp only [u32s_cell, hg, Int.toNat_natCast, u32s_isInt [y] 0 (by simp), and_true, List.take_length, List.drop_length, List.append_nil, Nat.mul_one, List.drop_zero, e3, unu_u32s, u32s_length, dgn_length, ht, w1]
  refine ⟨by omega, ⟨hxl, by omega⟩, by simp, by simp, ⟨⟨by omega, by omega⟩, by omega, dx⟩, ⟨⟨u32s_nameless _, Nat.le_refl _⟩, trivial, by omega⟩, ?_⟩
  exact ⟨Int.natCast_nonneg _, by omega⟩
def ent_idivC : Ent := fun ds => match ds with
  | [.ro n_xs ys_xs, .ro n_ys ys_ys] => some (.tup [.ro (dg (nv (unu ys_xs) / nv (unu ys_ys))).length (u32s (dg (nv (unu ys_xs) / nv (unu ys_ys)))), .ro (dg (nv (unu ys_xs) % nv (unu ys_ys))).length (u32s (dg (nv (unu ys_xs) % nv (unu ys_ys))))], (ys_ys = u32s (unu ys_ys) ∧ n_ys = (unu ys_ys).length) ∧ (ys_xs = u32s (unu ys_xs) ∧ n_xs = (unu ys_xs).length) ∧ dHyp (unu ys_xs) (unu ys_ys) ∧ nv (unu ys_ys) ≤ nv (unu ys_xs) ∧ (unu ys_ys).length = 1)
  | _ => none
theorem ent_idivC_ok : EntOk Try.prog 51 ent_idivC := by
  intro ds d c h hc; unfold ent_idivC at h; split at h
  · rename_i n_xs ys_xs n_ys ys_ys; obtain ⟨rfl, rfl⟩ := pair_inj h
    obtain ⟨⟨h1, h2⟩, hc⟩ := hc; subst h2; generalize (unu ys_ys) = ys at *; subst h1
    obtain ⟨⟨h1, h2⟩, hc⟩ := hc; subst h2; generalize (unu ys_xs) = xs at *; subst h1
    exact idivC_pure xs ys hc
  · cases h
theorem idivA_pure (xs ys : List Nat) (hpre : dHyp2 xs ys ∧ nv ys ≤ nv xs) : PureJ Try.prog 51 [.ro xs.length (u32s xs), .ro ys.length (u32s ys)] (.tup [.ro (dg (nv xs / nv ys)).length (u32s (dg (nv xs / nv ys))), .ro (dg (nv xs % nv ys)).length (u32s (dg (nv xs % nv ys)))]) := by
  refine pureJ_of_vcpN (call := (addPure 65 ent_icompare (addMake 87 entk_clone (addPure 91 ent_ilead32 (addMake 92 entk_shl (addPure 89 ent_itrim (addPure 94 ent_ishr noCalls))))))) (lp := fun k => bif Nat.beq k 11 then some (lp_divLoop xs ys) else none) (N := 10) T_ok mixed (addPure_ok ent_icompare_ok (addMake_ok entk_clone_ok (addPure_ok ent_ilead32_ok (addMake_ok entk_shl_ok (addPure_ok ent_itrim_ok (addPure_ok ent_ishr_ok noCalls_ok)))))) Try.func51 rfl (by decide) (by kernel_rfl) (by kernel_rfl) (of_eq (B := LRuleP Try.prog Try.f51.ntmps (loopAt ((Try.f51.body).getD .skip) 11) (lp_divLoop xs ys) ∧ True) (by kernel_rfl) ⟨divLoop_rule xs ys hpre.1, trivial⟩) (by first | trivial | (simp only [NamelessL, Nameless, and_self, and_true, true_and]; done) | (simp [NamelessL, Nameless, u32s_nameless, namelessL_ints]; done)) (by first | trivial | (simp only [NamelessL, Nameless, and_self, and_true, true_and]; done) | (simp [NamelessL, Nameless, u32s_nameless, namelessL_ints]; done)) ?_
  refine of_eq (B := letI z12 := List.length ys; letI z21 := ((z12 : Nat) : Int); letI z4 := (IntKind.wrap IntKind.i64 (z21 - (1 : Int))); letI z34 := ((Int.toNat z4) * (1 : Nat)); letI z8 := (List.getD (u32s ys) z34 (Inhabited.default)); letI z0 := ((((32 : Nat) - (bl (Int.toNat (cellInt z8)))) : Nat) : Int); letI z14 := List.length xs; letI z1 := (IntKind.wrap IntKind.i64 ((IntKind.wrap IntKind.i64 (((z14 : Nat) : Int) - z21)) + (1 : Int))); letI z22 := (unu (u32s ys)); letI z11 := (List.length z22); letI z26 := (z11 + (1 : Nat)); letI z36 := ((2 : Nat) ^ (Int.toNat z0)); letI z6 := (u32s (dgn z26 ((nv z22) * z36))); letI z2 := (List.take (z26 * (1 : Nat)) (List.drop (0 : Nat) z6)); letI z43 := (List.length (dvs ys)); letI z7 := ((z43 : Nat) : Int); letI z35 := ((Int.toNat z7) - (0 : Nat)); letI z3 := (z35 * (1 : Nat)); letI z25 := (unu (u32s xs)); letI z5 := (List.length z25); letI z9 := (((u32s xs) = (u32s z25)) ∧ (z14 = z5)); letI z39 := (dg ((nv xs) / (nv ys))); letI z40 := (dg ((nv xs) % (nv ys))); letI z10 := (D.tup [(D.ro (List.length z39) (u32s z39)), (D.ro (List.length z40) (u32s z40))]); letI z13 := ((dM xs ys) * (1 : Nat)); letI z15 := ((nv xs) * ((2 : Nat) ^ (dsh ys))); letI z16 := (((dsh ys) : Nat) : Int); letI z17 := (u32s (dgn (z5 + (1 : Nat)) ((nv z25) * z36))); letI z18 := (1000000 : Nat); letI z19 := (List.replicate (dM xs ys) (0 : Nat)); letI z37 := Int.toNat z1; letI z20 := (List.replicate z37 (D.v (Value.int IntKind.u32 (0 : Int)))); letI z23 := ((0 : Nat) < (1 : Nat)); letI z24 := (Cap.toEnd (1 : Nat)); letI z27 := (z14 + (1 : Nat)); letI z28 := (z9 ∧ (((0 : Nat) < z5) ∧ (z5 ≤ z18))); letI z29 := Bool.true = Bool.true; letI z30 := (((u32s ys) = (u32s z22)) ∧ (z12 = z11)); letI z31 := (((0 : Int) ≤ z0) ∧ (z0 < (32 : Int))); letI z32 := (z15 / ((4294967296 : Nat) ^ (dM xs ys))); letI z33 := ((2 : Nat) ^ (Int.toNat z16)); letI z38 := ([] : List (Option Blk)); letI z41 := (List.length (u32s ys)); letI z42 := (List.length (unu z2)); (True ∧ (True ∧ (True ∧ (True ∧ ((z30 ∧ (z9 ∧ (z5 ≤ (1000000000000 : Nat)))) ∧ (True ∧ (pcond (Decidable.decide ((cmpL z25 z22) < (0 : Int))) (True ∧ (z28 ∧ (True ∧ (True ∧ (True ∧ ((True ∧ (((NamelessL (u32s xs)) ∧ (z23 ∧ (((0 : Nat) + (z14 * (1 : Nat))) ≤ (List.length (u32s xs))))) ∧ True)) ∧ ((D.tup [(D.ro (0 : Nat) ([] : List D)), (D.ro z14 (List.take (z14 * (1 : Nat)) (List.drop (0 : Nat) (u32s xs))))]) = z10))))))) (True ∧ (True ∧ (True ∧ (pcond (z21 == (1 : Int)) (True ∧ (z28 ∧ (True ∧ (True ∧ (True ∧ ((((0 : Int) ≤ (0 : Int)) ∧ ((0 : Int) < z21)) ∧ ((((0 : Nat) < z41) ∧ (IsInt IntKind.u32 (List.getD (u32s ys) (0 : Nat) (Inhabited.default)))) ∧ False))))))) (True ∧ (True ∧ (True ∧ (True ∧ ((((0 : Int) ≤ z4) ∧ (z4 < z21)) ∧ (((z34 < z41) ∧ (IsInt IntKind.u32 z8)) ∧ ((((0 : Int) ≤ (cellInt z8)) ∧ ((cellInt z8) < (4294967296 : Int))) ∧ (True ∧ (True ∧ (True ∧ ((z9 ∧ (((z5 ≤ z18) ∧ (Dig z25)) ∧ z31)) ∧ (True ∧ (True ∧ ((z30 ∧ (((z11 ≤ z18) ∧ (Dig z22)) ∧ z31)) ∧ (((((NamelessL z6) ∧ (z23 ∧ (((0 : Nat) + (z26 * (1 : Nat))) ≤ (List.length z6)))) ∧ True) ∧ (((z2 = (u32s (unu z2))) ∧ (z26 = z42)) ∧ (z42 ≤ z18))) ∧ (True ∧ (True ∧ (True ∧ (True ∧ (True ∧ (True ∧ (True ∧ (True ∧ ((((0 : Int) ≤ z1) ∧ ((z1 ≤ z1) ∧ ((((4 : Int) * z1) ≤ (281474976710656 : Int)) ∧ (z1 ≤ (9223372036854775807 : Int))))) ∧ (True ∧ (True ∧ (True ∧ (True ∧ (True ∧ (((((dM xs ys) ≤ (dM xs ys)) ∧ (((List.length (dU0 xs ys)) = z27) ∧ (Dig (dU0 xs ys)))) ∧ (((List.take ((dM xs ys) + z12) (dU0 xs ys)) = ((List.take (dM xs ys) (dU0 xs ys)) ++ (dgn z12 (z32 % (nv (dvs ys)))))) ∧ (z19 = (z19 ++ (dgn ((dM xs ys) - (dM xs ys)) (z32 / (nv (dvs ys)))))))) ∧ ((z29 ∧ (((((Option.some (Blk.mk (41 : Nat) (u32s (dU0 xs ys)) Bool.true)) = (Option.some (Blk.mk (41 : Nat) z17 Bool.true))) ∧ (NamelessL z17)) ∧ ((((Option.some (Blk.mk (41 : Nat) (u32s z19) Bool.true)) = (Option.some (Blk.mk (41 : Nat) z20 Bool.true))) ∧ (NamelessL z20)) ∧ (z38 = z38))) ∧ ((True ∧ ((D.sl (1 : Nat) (0 : Nat) z37 z24) = (D.sl (1 : Nat) (0 : Nat) (dM xs ys) z24))) ∧ ((True ∧ ((D.v (Value.int IntKind.i64 z0)) = (D.v (Value.int IntKind.i64 z16)))) ∧ ((True ∧ ((D.sl (0 : Nat) (0 : Nat) (z5 + (1 : Nat)) z24) = (D.sl (0 : Nat) (0 : Nat) z27 z24))) ∧ ((True ∧ ((D.ro (List.length (trimL (unu z2))) (u32s (trimL (unu z2)))) = (D.ro z43 (u32s (dvs ys))))) ∧ ((True ∧ ((D.v (Value.int IntKind.i64 (IntKind.wrap IntKind.i64 (((z37 : Nat) : Int) - (1 : Int))))) = (D.v (Value.int IntKind.i64 ((((dM xs ys) : Nat) : Int) - (1 : Int)))))) ∧ True))))))) ∧ (∀ (r : (Prod (List Nat) (List Nat))), (((((List.length (Prod.fst r)) = z27) ∧ ((Dig (Prod.fst r)) ∧ ((List.take z12 (Prod.fst r)) = (dgn z12 (z15 % (nv (dvs ys))))))) ∧ ((Prod.snd r) = (dgn (dM xs ys) (z15 / (nv (dvs ys)))))) → (True ∧ (((((NamelessL (u32s (Prod.snd r))) ∧ (z23 ∧ (((0 : Nat) + z13) ≤ (List.length (u32s (Prod.snd r)))))) ∧ True) ∧ ((((List.take z13 (List.drop (0 : Nat) (u32s (Prod.snd r)))) = (u32s (unu (List.take z13 (List.drop (0 : Nat) (u32s (Prod.snd r))))))) ∧ ((dM xs ys) = (List.length (unu (List.take z13 (List.drop (0 : Nat) (u32s (Prod.snd r)))))))) ∧ ((List.length (unu (List.take z13 (List.drop (0 : Nat) (u32s (Prod.snd r)))))) ≤ z18))) ∧ (True ∧ (True ∧ (True ∧ (True ∧ (True ∧ (((True ∧ ((((0 : Int) ≤ z7) ∧ (z7 ≤ (((Int.toNat z7) : Nat) : Int))) ∧ (((0 : Int) ≤ z7) ∧ ((z7 ≤ ((z27 : Nat) : Int)) ∧ z29)))) ∧ ((1 : Nat) = (1 : Nat))) ∧ (True ∧ (((((NamelessL (u32s (Prod.fst r))) ∧ (z23 ∧ (((0 : Nat) + z3) ≤ (List.length (u32s (Prod.fst r)))))) ∧ (True ∧ True)) ∧ ((((List.take z3 (List.drop (0 : Nat) (u32s (Prod.fst r)))) = (u32s (unu (List.take z3 (List.drop (0 : Nat) (u32s (Prod.fst r))))))) ∧ (z35 = (List.length (unu (List.take z3 (List.drop (0 : Nat) (u32s (Prod.fst r)))))))) ∧ ((((List.length (unu (List.take z3 (List.drop (0 : Nat) (u32s (Prod.fst r)))))) ≤ z18) ∧ (Dig (unu (List.take z3 (List.drop (0 : Nat) (u32s (Prod.fst r))))))) ∧ (((0 : Int) ≤ z16) ∧ (z16 < (32 : Int)))))) ∧ (True ∧ (True ∧ (z29 ∧ (True ∧ ((True ∧ (True ∧ True)) ∧ ((D.tup [(D.ro (List.length (trimL (unu (List.take z13 (List.drop (0 : Nat) (u32s (Prod.snd r))))))) (u32s (trimL (unu (List.take z13 (List.drop (0 : Nat) (u32s (Prod.snd r)))))))), (D.ro (List.length (dg ((nv (unu (List.take z3 (List.drop (0 : Nat) (u32s (Prod.fst r)))))) / z33))) (u32s (dg ((nv (unu (List.take z3 (List.drop (0 : Nat) (u32s (Prod.fst r)))))) / z33))))]) = z10))))))))))))))))))))))))))))))))))))))))))))))))))))))))))))) (by kernel_rfl) ?_
  simp only [true_and, and_true, and_self, IsInt_lit, IsBool_lit, IsStr_lit, Bool.not_eq_true', Bool.not_eq_false', Bool.not_true, Bool.not_false, Int.reduceLE, Int.reduceLT, Int.reduceNeg, Nat.le_refl, Int.le_refl, Nat.reduceLT, Nat.reduceLeDiff, Nat.reduceEqDiff, D.v.injEq, D.tup.injEq, D.agg.injEq, D.ro.injEq, List.cons.injEq, Value.int.injEq, Value.bool.injEq, pcond_true, pcond_false, NamelessL, Nameless, Nat.reduceMul, Nat.reduceAdd, Nat.zero_add, Int.toNat_natCast, unu_u32s]
  obtain ⟨hd, hle⟩ := hpre
  obtain ⟨⟨f1, f2⟩, ⟨f3, f4⟩, ⟨f5, f6⟩, f7, f8, dx, dy, dv⟩ := div_facts hd
  obtain ⟨⟨⟨⟨hlx, hly⟩, gx, gy⟩, h0⟩, h2, hll⟩ := hd
  have hc : decide (cmpL xs ys < 0) = false := by rw [cmp_canon gx gy]; unfold cmpN; rw [if_neg (by omega)]; split <;> rfl
  have hc2 : ((ys.length : Int) == 1) = false := by simp; omega
  have w1 : IntKind.i64.wrap ((ys.length : Int) - 1) = ((ys.length - 1 : Nat) : Int) := by rw [wrap_i64_of (by omega) (by omega)]; omega
  have hsh : 32 - bl (ys.getD (ys.length - 1) 0) = dsh ys := rfl
  rw [hc, hc2, pcond_false, pcond_false]
  have w2 : IntKind.i64.wrap (IntKind.i64.wrap ((xs.length : Int) - (ys.length : Int)) + 1) = ((dM xs ys : Nat) : Int) := by
    rw [wrap_i64_of (n := (xs.length : Int) - (ys.length : Int)) (by omega) (by omega), wrap_i64_of (by omega) (by omega)]; unfold dM; omega
  have w3 : IntKind.i64.wrap ((dM xs ys : Int) - 1) = (dM xs ys : Int) - 1 := wrap_i64_of (by omega) (by omega)
  have hyt := dy.get (ys.length - 1)
  obtain ⟨s1, s2⟩ := div_start (M := dM xs ys) (n := ys.length) (V := nv (dvs ys)) dx f7 f8 (by omega) f6
  have e0 : List.replicate (dM xs ys) (D.v (Value.int IntKind.u32 0)) = u32s (List.replicate (dM xs ys) 0) := u32s_replicate _ 0
  have e3 : List.take (ys.length + 1) (u32s (dgn (ys.length + 1) (nv ys * 2 ^ dsh ys))) = u32s (dgn (ys.length + 1) (nv ys * 2 ^ dsh ys)) := by rw [u32s_take, List.take_of_length_le (by rw [dgn_length]; exact Nat.le_refl _)]
  have ht : trimL (dgn (ys.length + 1) (nv ys * 2 ^ dsh ys)) = dvs ys := trimL_dgn (by
    rw [← f1, Nat.pow_succ]
    have := Nat.mul_le_mul_left (4294967296 ^ ys.length) (show 1 ≤ 4294967296 by decide)
    omega)
  have hU : dU0 xs ys = dgn (xs.length + 1) (nv xs * 2 ^ dsh ys) := rfl
  simp only [w1, w2, w3, Int.toNat_natCast, Nat.mul_one, u32s_cell, u32s_length, hsh, u32s_isInt ys (ys.length - 1) (by omega), and_true, List.drop_zero, e3, unu_u32s, ht, e0, f2, dgn_length, Nat.sub_self, Nat.sub_zero, s2, hU]
  refine ⟨by omega, ⟨by omega, by omega⟩, by omega, ⟨by omega, by omega⟩, ⟨⟨by omega, dx⟩, by omega, by omega⟩, ⟨⟨by omega, dy⟩, by omega, by omega⟩, ⟨⟨u32s_nameless _, Nat.le_refl _⟩, trivial, by omega⟩, ⟨by omega, by omega, by omega⟩, ⟨⟨trivial, dgn_dig _ _⟩, s1, by simp [dgn]⟩, ⟨⟨trivial, u32s_nameless _⟩, trivial, u32s_nameless _⟩, ?_⟩
  rintro ⟨us, qs⟩ ⟨⟨hul, hud, hut⟩, hq⟩
  simp only at hul hud hut hq
  subst hq
  have hXV : nv xs * 2 ^ dsh ys / nv (dvs ys) < 4294967296 ^ dM xs ys := by
    rw [Nat.div_lt_iff_lt_mul f4, Nat.mul_comm (4294967296 ^ _), ← Nat.div_lt_iff_lt_mul (pow_pos32 _)]
    exact (Nat.div_eq_zero_iff_lt f4).1 s2
  have hmod := Nat.mod_lt (nv xs * 2 ^ dsh ys) f4
  have hq1 : trimL (dgn (dM xs ys) (nv xs * 2 ^ dsh ys / nv (dvs ys))) = dg (nv xs / nv ys) := by
    rw [trimL_dgn hXV, f1, scale_div]
  have hr1 : nv (dgn ys.length (nv xs * 2 ^ dsh ys % nv (dvs ys))) / 2 ^ dsh ys = nv xs % nv ys := by
    rw [nv_dgn, Nat.mod_eq_of_lt (Nat.lt_trans hmod f5), f1, scale_mod]
  have e5 : List.take (dM xs ys) (u32s (dgn (dM xs ys) (nv xs * 2 ^ dsh ys / nv (dvs ys)))) = u32s (dgn (dM xs ys) (nv xs * 2 ^ dsh ys / nv (dvs ys))) := by rw [u32s_take, List.take_of_length_le (by rw [dgn_length]; exact Nat.le_refl _)]
  have e6 : List.take ys.length (u32s us) = u32s (dgn ys.length (nv xs * 2 ^ dsh ys % nv (dvs ys))) := by rw [u32s_take, hut]
  simp only [e5, e6, unu_u32s, hq1, hr1, dgn_length]
  exact ⟨⟨⟨u32s_nameless _, Nat.le_refl _⟩, ⟨trivial, trivial⟩, by omega⟩, ⟨by omega, by omega, by omega⟩, ⟨⟨u32s_nameless _, by omega⟩, ⟨trivial, trivial⟩, ⟨by omega, dgn_dig _ _⟩, by omega, by omega⟩, ⟨trivial, trivial⟩, trivial, trivial⟩
def ent_idivA : Ent := fun ds => match ds with
  | [.ro n_xs ys_xs, .ro n_ys ys_ys] => some (.tup [.ro (dg (nv (unu ys_xs) / nv (unu ys_ys))).length (u32s (dg (nv (unu ys_xs) / nv (unu ys_ys)))), .ro (dg (nv (unu ys_xs) % nv (unu ys_ys))).length (u32s (dg (nv (unu ys_xs) % nv (unu ys_ys))))], (ys_ys = u32s (unu ys_ys) ∧ n_ys = (unu ys_ys).length) ∧ (ys_xs = u32s (unu ys_xs) ∧ n_xs = (unu ys_xs).length) ∧ dHyp2 (unu ys_xs) (unu ys_ys) ∧ nv (unu ys_ys) ≤ nv (unu ys_xs))
  | _ => none
theorem ent_idivA_ok : EntOk Try.prog 51 ent_idivA := by
  intro ds d c h hc; unfold ent_idivA at h; split at h
  · rename_i n_xs ys_xs n_ys ys_ys; obtain ⟨rfl, rfl⟩ := pair_inj h
    obtain ⟨⟨h1, h2⟩, hc⟩ := hc; subst h2; generalize (unu ys_ys) = ys at *; subst h1
    obtain ⟨⟨h1, h2⟩, hc⟩ := hc; subst h2; generalize (unu ys_xs) = xs at *; subst h1
    exact idivA_pure xs ys hc
  · cases h
theorem idiv_pure (xs ys : List Nat) (hpre : dHyp xs ys) : PureJ Try.prog 51 [.ro xs.length (u32s xs), .ro ys.length (u32s ys)] (.tup [.ro (dg (nv xs / nv ys)).length (u32s (dg (nv xs / nv ys))), .ro (dg (nv xs % nv ys)).length (u32s (dg (nv xs % nv ys)))]) := by
  rcases Nat.lt_or_ge (nv xs) (nv ys) with h | h
  · exact idivB_pure xs ys ⟨hpre, h⟩
  · by_cases h1 : ys.length = 1
    · exact idivC_pure xs ys ⟨hpre, h, h1⟩
    · refine idivA_pure xs ys ⟨⟨hpre, ?_, ?_⟩, h⟩
      · obtain ⟨⟨_, gx, gy⟩, h0⟩ := hpre
        rcases Nat.eq_zero_or_pos ys.length with h2 | h2
        · have : ys = [] := List.eq_nil_of_length_eq_zero h2
          subst this
          rw [nv] at h0; omega
        · omega
      · obtain ⟨⟨_, gx, gy⟩, h0⟩ := hpre
        have := dg_len_mono h
        rw [← gx, ← gy] at this
        exact this
def ent_idiv : Ent := fun ds => match ds with
  | [.ro n1 y1, .ro n2 y2] => some (.tup [.ro (dg (nv (unu y1) / nv (unu y2))).length (u32s (dg (nv (unu y1) / nv (unu y2)))), .ro (dg (nv (unu y1) % nv (unu y2))).length (u32s (dg (nv (unu y1) % nv (unu y2))))],
      ((y1 = u32s (unu y1) ∧ n1 = (unu y1).length) ∧ (y2 = u32s (unu y2) ∧ n2 = (unu y2).length)) ∧ dHyp (unu y1) (unu y2))
  | _ => none
theorem ent_idiv_ok : EntOk Try.prog 51 ent_idiv := by
  intro ds d c h hc; unfold ent_idiv at h; split at h
  · rename_i n1 y1 n2 y2; obtain ⟨rfl, rfl⟩ := pair_inj h
    obtain ⟨⟨⟨h1, h2⟩, h3, h4⟩, hc⟩ := hc
    subst h2; subst h4
    generalize unu y1 = xs at *
    generalize unu y2 = ys at *
    subst h1; subst h3
    exact idiv_pure xs ys hc
  · cases h
end Go.Proofs.Ythnhfkpihbjddaa
end
section
namespace Go.Proofs.Ythnhfkpihbjddaa
open Go.VD
set_option linter.unusedVariables false
set_option linter.unusedSimpArgs false
set_option maxRecDepth 100000
def d_ie (p : (Bool × List Nat) × Int) : D := .tup [d_int p.1.1 p.1.2, .v (.int .i64 p.2)]
def d_bx (neg : Bool) (xs : List Nat) : Option Blk := some ⟨24, [.v (.bool neg), .ro xs.length (u32s xs)], true⟩
def gcS (ok : Bool) (G : Nat) : (Bool × List Nat) × Int := bif ok then ((false, dg G), 0) else ((false, []), 1)
theorem sig_nat {G : Nat} (h : (dg G).length ≤ 400) : sigN false (dg G) = false ∧ sigL (dg G) = dg G ∧ sigE (dg G) = 0 := by
  have m := madeN_dg false G
  obtain ⟨s1, s2, s3⟩ := sig_ok (neg := false) (xs := dg G) (v := (G : Int)) (by rw [m.1]; simp) (by rw [m.2]; unfold ofL; simp)
  have l : (ofL (G : Int)).length ≤ 400 := by unfold ofL; simpa using h
  rw [s1, s2, s3]
  unfold okS
  simp only [l, decide_true, cond_true, and_true]
  refine ⟨by simp, by unfold ofL; simp⟩
theorem gcd_len {x y n : Nat} (hx : (dg x).length ≤ n) (hy : (dg y).length ≤ n) : (dg (Nat.gcd x y)).length ≤ n := by
  rcases Nat.eq_zero_or_pos x with h | h
  · subst h; rw [Nat.gcd_zero_left]; exact hy
  · exact Nat.le_trans (dg_len_mono (Nat.gcd_le_left y h)) hx
theorem nv_of (a : Int) : nv (ofL a) = a.natAbs := by unfold ofL; exact nv_dg _
end Go.Proofs.Ythnhfkpihbjddaa
end
section
namespace Go.Proofs.Ythnhfkpihbjddaa
open Go.VD
set_option linter.unusedVariables false
set_option linter.unusedSimpArgs false
set_option maxRecDepth 100000
theorem exists_sq : ∀ x : Nat, ∃ s, s * s ≤ x ∧ x < (s + 1) * (s + 1)
  | 0 => ⟨0, by decide, by decide⟩
  | x + 1 => by
    obtain ⟨s, h1, h2⟩ := exists_sq x
    by_cases h : (s + 1) * (s + 1) ≤ x + 1
    · refine ⟨s + 1, h, ?_⟩
      have : (s + 1 + 1) * (s + 1 + 1) = (s + 1) * (s + 1) + 2 * (s + 1) + 1 := by grind
      omega
    · exact ⟨s, by omega, by omega⟩
noncomputable def sq (x : Nat) : Nat := Classical.choose (exists_sq x)
theorem sq_spec (x : Nat) : sq x * sq x ≤ x ∧ x < (sq x + 1) * (sq x + 1) := Classical.choose_spec (exists_sq x)
theorem sq_unique {x s t : Nat} (h1 : s * s ≤ x) (h2 : x < (t + 1) * (t + 1)) : s ≤ t := by
  refine Nat.le_of_not_lt fun h => ?_
  have := Nat.mul_le_mul (show t + 1 ≤ s from h) (show t + 1 ≤ s from h)
  omega
theorem sq_eq {x s : Nat} (h1 : s * s ≤ x) (h2 : x < (s + 1) * (s + 1)) : s = sq x := by
  obtain ⟨g1, g2⟩ := sq_spec x
  exact Nat.le_antisymm (sq_unique h1 g2) (sq_unique g1 h2)
theorem newton_ge {x r s : Nat} (hr : 0 < r) (hs : s * s ≤ x) : s ≤ (r + x / r) / 2 := by
  rw [Nat.le_div_iff_mul_le (by decide)]
  rcases Nat.le_total (2 * s) r with h | h
  · generalize x / r = e; omega
  · have : 2 * s - r ≤ x / r := by
      rw [Nat.le_div_iff_mul_le hr]
      refine Nat.le_trans ?_ hs
      rcases Nat.le_total r s with h1 | h1
      · obtain ⟨d, rfl⟩ : ∃ d, s = r + d := ⟨s - r, by omega⟩
        rw [show 2 * (r + d) - r = r + 2 * d by omega]
        have : (r + d) * (r + d) = (r + 2 * d) * r + d * d := by grind
        omega
      · obtain ⟨d, rfl⟩ : ∃ d, r = s + d := ⟨r - s, by omega⟩
        obtain ⟨e, rfl⟩ : ∃ e, s = d + e := ⟨s - d, by omega⟩
        rw [show 2 * (d + e) - (d + e + d) = e by omega]
        have : (d + e) * (d + e) = e * (d + e + d) + d * d := by grind
        omega
    generalize x / r = e at *; omega
theorem newton {x r : Nat} (hx : 0 < x) (hr : 0 < r) (h : x < (r + 1) * (r + 1)) : (0 < (r + x / r) / 2 ∧ x < ((r + x / r) / 2 + 1) * ((r + x / r) / 2 + 1)) ∧ (r ≤ (r + x / r) / 2 → r * r ≤ x) := by
  obtain ⟨g1, g2⟩ := sq_spec x
  have hn := newton_ge hr g1
  have hs : 0 < sq x := by
    rcases Nat.eq_zero_or_pos (sq x) with h0 | h0
    · rw [h0] at g2; omega
    · exact h0
  refine ⟨⟨by omega, ?_⟩, fun hle => ?_⟩
  · have := Nat.mul_le_mul (show sq x + 1 ≤ (r + x / r) / 2 + 1 by omega) (show sq x + 1 ≤ (r + x / r) / 2 + 1 by omega)
    omega
  · refine Nat.le_of_not_lt fun hlt => ?_
    have : x / r < r := (Nat.div_lt_iff_lt_mul hr).2 hlt
    omega
theorem add_len (a b : Nat) : (dg (a + b)).length ≤ (dg a).length + (dg b).length + 1 := by
  refine dg_length_le ?_
  have h1 := lt_of_dg_length (v := a) (Nat.le_refl _)
  have h2 := lt_of_dg_length (v := b) (Nat.le_refl _)
  have p1 : 0 < 4294967296 ^ (dg a).length := Nat.pow_pos (by decide)
  have p2 : 0 < 4294967296 ^ (dg b).length := Nat.pow_pos (by decide)
  rw [Nat.pow_succ, Nat.pow_add]
  generalize 4294967296 ^ (dg a).length = A at *
  generalize 4294967296 ^ (dg b).length = B at *
  have m1 := Nat.mul_le_mul_left A p2
  have m2 := Nat.mul_le_mul_right B p1
  generalize A * B = C at *
  omega
def rHyp (xs : List Nat) : Prop := xs.length ≤ 40000 ∧ xs = dg (nv xs)
def d_lr (v : Nat) : D := .ro (dg v).length (u32s (dg v))
def lp_rootLoop (xs : List Nat) : LoopO := loopRule2 (α := Nat) (β := Unit) (γ := Nat) [] (fun r => (0 < nv xs ∧ 0 < r ∧ (dg r).length ≤ 40000) ∧ nv xs < (r + 1) * (r + 1)) (fun r => [(0, .ro xs.length (u32s xs)), (4, d_lr r)]) (fun _ => []) (2 ^ ((32 * (xs.length - 1) + bl (xs.getD (xs.length - 1) 0) + 1) / 2)) (fun _ => False) (fun _ => (.exit 0, [], [])) (fun r => r * r ≤ nv xs ∧ nv xs < (r + 1) * (r + 1)) (fun r => (.ret, [(2, d_lr r)], []))
theorem rootLoop_rule (xs : List Nat) (hpre : rHyp xs) : LRuleP Try.prog Try.f63.ntmps (loopAt ((Try.f63.body).getD .skip) 6) (lp_rootLoop xs) := by
  refine lrule_of2 (α := Nat) (β := Unit) (γ := Nat) (call := (addPure 51 ent_idiv (addPure 52 ent_iadd (addPure 94 ent_ishr (addPure 65 ent_icompare noCalls))))) (lp := fun _ => none) (N := 10) T_ok mixed (addPure_ok ent_idiv_ok (addPure_ok ent_iadd_ok (addPure_ok ent_ishr_ok (addPure_ok ent_icompare_ok noCalls_ok)))) (fun r => r) (by kernel_rfl) (LpAllP.none _) ?_
  intro x hJ
  refine of_eq (B := letI z5 := (unu (u32s (dg x))); letI z10 := (unu (u32s xs)); letI z1 := (dg ((nv z10) / (nv z5))); letI z8 := (unu (u32s z1)); letI z0 := (dg ((nv z5) + (nv z8))); letI z9 := (unu (u32s z0)); letI z2 := (dg ((nv z9) / (2 : Nat))); letI z15 := (List.length (dg x)); letI z3 := (((u32s (dg x)) = (u32s z5)) ∧ (z15 = (List.length z5))); letI z4 := ([] : List (Option Blk)); letI z14 := (Exit.exit (0 : Nat)); letI z13 := ([] : List (Prod Nat D)); letI z6 := (Prod.mk z14 (Prod.mk z13 z4)); letI z7 := (Prod.mk (0 : Nat) (D.ro (List.length xs) (u32s xs))); letI z11 := (unu (u32s z2)); letI z12 := (List (Option Nat)); (True ∧ (True ∧ ((((((u32s xs) = (u32s z10)) ∧ ((List.length xs) = (List.length z10))) ∧ z3) ∧ (dHyp z10 z5)) ∧ (True ∧ (True ∧ (True ∧ (True ∧ (True ∧ (True ∧ (True ∧ (((((u32s z1) = (u32s z8)) ∧ ((List.length z1) = (List.length z8))) ∧ (z3 ∧ (((List.length z5) ≤ (400000 : Nat)) ∧ (((List.length z8) ≤ (400000 : Nat)) ∧ ((Dig z5) ∧ (Dig z8)))))) ∧ (((((u32s z0) = (u32s z9)) ∧ ((List.length z0) = (List.length z9))) ∧ ((((List.length z9) ≤ (1000000 : Nat)) ∧ (Dig z9)) ∧ (((0 : Int) ≤ (1 : Int)) ∧ ((1 : Int) < (32 : Int))))) ∧ (True ∧ (True ∧ (True ∧ ((z3 ∧ ((((u32s z2) = (u32s z11)) ∧ ((List.length z2) = (List.length z11))) ∧ ((List.length z11) ≤ (1000000000000 : Nat)))) ∧ (True ∧ (pcond (Decidable.decide ((0 : Int) ≤ (cmpL z11 z5))) (True ∧ (True ∧ ((∃ (r : Unit), (∃ (kp : z12), (False ∧ ((Exit.ret = z14) ∧ (viewAll kp z13 z4 (Prod.fst (Prod.snd ((fun (x_1 : Unit) => z6) r))) (Prod.snd (Prod.snd ((fun (x_1 : Unit) => z6) r)))))))) ∨ (∃ (r : Nat), (∃ (kp : z12), ((((r * r) ≤ (nv xs)) ∧ ((nv xs) < ((r + (1 : Nat)) * (r + (1 : Nat))))) ∧ ((Exit.ret = Exit.ret) ∧ (viewAll kp [(Prod.mk (2 : Nat) (D.ro z15 (u32s (dg x))))] z4 (Prod.fst (Prod.snd ((fun (r_1 : Nat) => (Prod.mk Exit.ret (Prod.mk [(Prod.mk (2 : Nat) (d_lr r_1))] z4))) r))) (Prod.snd (Prod.snd ((fun (r_1 : Nat) => (Prod.mk Exit.ret (Prod.mk [(Prod.mk (2 : Nat) (d_lr r_1))] z4))) r))))))))))) (True ∧ (True ∧ (∃ (y : Nat), (∃ (kp : z12), ((y < x) ∧ (((((0 : Nat) < (nv xs)) ∧ (((0 : Nat) < y) ∧ ((List.length (dg y)) ≤ (40000 : Nat)))) ∧ ((nv xs) < ((y + (1 : Nat)) * (y + (1 : Nat))))) ∧ (viewAll kp [z7, (Prod.mk (4 : Nat) (D.ro (List.length z2) (u32s z2)))] z4 [z7, (Prod.mk (4 : Nat) (d_lr y))] z4)))))))))))))))))))))))))) (by kernel_rfl) ?_
  simp only [true_and, and_true, and_self, IsInt_lit, IsBool_lit, IsStr_lit, Bool.not_eq_true', Bool.not_eq_false', Bool.not_true, Bool.not_false, Int.reduceLE, Int.reduceLT, Int.reduceNeg, Nat.le_refl, Int.le_refl, Nat.reduceLT, Nat.reduceLeDiff, Nat.reduceEqDiff, D.v.injEq, D.tup.injEq, D.agg.injEq, D.ro.injEq, List.cons.injEq, Value.int.injEq, Value.bool.injEq, pcond_true, pcond_false, NamelessL, Nameless, Nat.reduceMul, Nat.reduceAdd, Nat.zero_add, Int.toNat_natCast, unu_u32s] at *
  obtain ⟨hl, gx⟩ := hpre
  obtain ⟨⟨hx, hr, lr⟩, hb⟩ := hJ
  obtain ⟨⟨n1, n2⟩, n3⟩ := newton hx hr hb
  have l1 := dg_len_mono (Nat.div_le_self (nv xs) x)
  rw [← gx] at l1
  have l2 := add_len x (nv xs / x)
  have l3 := dg_len_mono (Nat.div_le_self (x + nv xs / x) 2)
  simp only [nv_dg]
  generalize hn : (x + nv xs / x) / 2 = n at *
  have hc : decide (0 ≤ cmpL (dg n) (dg x)) = decide (x ≤ n) := by
    rw [cmpL_dg]; unfold cmpN
    rw [decide_eq_decide]
    constructor
    · intro h; refine Nat.le_of_not_lt fun hlt => ?_; rw [if_pos hlt] at h; omega
    · intro h; rw [if_neg (by omega)]; split <;> omega
  rw [hc]
  refine ⟨⟨⟨⟨by omega, by omega⟩, gx, by rw [nv_dg]⟩, by rw [nv_dg]; exact hr⟩, ⟨by omega, by omega, dg_dig _, dg_dig _⟩, ⟨by omega, dg_dig _⟩, by omega, pcond_intro (fun h => .inr ⟨x, [], ⟨n3 (by simpa using h), hb⟩, ?_⟩) (fun h => ⟨n, [], by simpa using h, ⟨⟨hx, n1, ?_⟩, n2⟩, ?_⟩)⟩
  · refine of_eq (B := letI z0 := (D.ro (List.length (dg x)) (u32s (dg x))); letI z1 := ([] : List (Option Blk)); ((Bool.true = Bool.true) ∧ ((z1 = z1) ∧ ((True ∧ (z0 = z0)) ∧ True)))) (by kernel_rfl) ?_
    simp
  · exact Nat.le_trans (dg_len_mono (Nat.le_of_lt (by simpa using h))) lr
  · refine of_eq (B := letI z0 := (D.ro (List.length (dg n)) (u32s (dg n))); letI z1 := (D.ro (List.length xs) (u32s xs)); letI z2 := ([] : List (Option Blk)); ((Bool.true = Bool.true) ∧ ((z2 = z2) ∧ ((True ∧ (z1 = z1)) ∧ ((True ∧ (z0 = z0)) ∧ True))))) (by kernel_rfl) ?_
    simp
theorem nv_lt_bl' {us : List Nat} (hd : Dig us) (h0 : 0 < us.length) : nv us < 2 ^ (32 * (us.length - 1) + bl (us.getD (us.length - 1) 0)) := by
  have h1 := nv_take_succ us (us.length - 1) (by omega)
  rw [show us.length - 1 + 1 = us.length by omega, List.take_length] at h1
  have h2 := nv_lt (hd.take (us.length - 1))
  rw [show (us.take (us.length - 1)).length = us.length - 1 by simp] at h2
  have h3 := bl_lt (us.getD (us.length - 1) 0)
  have h4 : 2 ^ (32 * (us.length - 1)) = 4294967296 ^ (us.length - 1) := by rw [Nat.pow_mul]
  rw [Nat.pow_add, h4, h1]
  have h5 := Nat.mul_le_mul_left (4294967296 ^ (us.length - 1)) (show us.getD (us.length - 1) 0 + 1 ≤ 2 ^ bl (us.getD (us.length - 1) 0) from h3)
  rw [Nat.mul_add, Nat.mul_one, Nat.mul_comm _ (us.getD _ _)] at h5
  omega
theorem nv_repl0 : ∀ n, nv (List.replicate n 0) = 0
  | 0 => rfl
  | n + 1 => by rw [List.replicate_succ, nv, nv_repl0 n]
theorem pow_list (b : Nat) : nv ((List.replicate (b / 32 + 1) 0).set (b / 32) (2 ^ (b % 32))) = 2 ^ b ∧ (List.replicate (b / 32 + 1) 0).set (b / 32) (2 ^ (b % 32)) = dg (2 ^ b) := by
  have hlt : 2 ^ (b % 32) < 4294967296 := by
    have := Nat.pow_lt_pow_right (show 1 < 2 by decide) (show b % 32 < 32 by omega)
    exact this
  have e : nv ((List.replicate (b / 32 + 1) 0).set (b / 32) (2 ^ (b % 32))) = 2 ^ b := by
    have := nv_put (List.replicate (b / 32 + 1) 0) (b / 32) (2 ^ (b % 32)) (by simp)
    rw [show (List.replicate (b / 32 + 1) 0).getD (b / 32) 0 = 0 by simp [List.getD_eq_getElem?_getD, List.getElem?_replicate], show nv (List.replicate (b / 32 + 1) 0) = 0 from nv_repl0 _] at this
    rw [Nat.zero_mul, Nat.add_zero, Nat.zero_add] at this
    rw [this, show (4294967296 : Nat) = 2 ^ 32 by rfl, ← Nat.pow_mul, ← Nat.pow_add]
    congr 1; omega
  refine ⟨e, ?_⟩
  rw [← e]
  refine (canon_dg ⟨?_, .inr ?_⟩).symm
  · intro y hy
    rcases List.mem_or_eq_of_mem_set hy with h | h
    · rw [List.eq_of_mem_replicate h]; decide
    · rw [h]; exact hlt
  · rw [List.length_set, List.length_replicate, Nat.add_sub_cancel]
    simp [List.getD_eq_getElem?_getD]
theorem iroot_pure (xs : List Nat) (hpre : rHyp xs) : PureJ Try.prog 63 [.ro xs.length (u32s xs)] (.ro (dg (sq (nv xs))).length (u32s (dg (sq (nv xs))))) := by
  refine pureJ_of_vcpN (call := (addPure 107 ent_ilength noCalls)) (lp := fun k => bif Nat.beq k 6 then some (lp_rootLoop xs) else none) (N := 10) T_ok mixed (addPure_ok ent_ilength_ok noCalls_ok) Try.func63 rfl (by decide) (by kernel_rfl) (by kernel_rfl) (of_eq (B := LRuleP Try.prog Try.f63.ntmps (loopAt ((Try.f63.body).getD .skip) 6) (lp_rootLoop xs) ∧ True) (by kernel_rfl) ⟨rootLoop_rule xs hpre, trivial⟩) (by first | trivial | (simp only [NamelessL, Nameless, and_self, and_true, true_and]; done) | (simp [NamelessL, Nameless, u32s_nameless, namelessL_ints]; done)) (by first | trivial | (simp only [NamelessL, Nameless, and_self, and_true, true_and]; done) | (simp [NamelessL, Nameless, u32s_nameless, namelessL_ints]; done)) ?_
  refine of_eq (B := letI z12 := (unu (u32s xs)); letI z5 := (List.length z12); letI z0 := (IntKind.wrap IntKind.i64 (Int.tdiv (IntKind.wrap IntKind.i64 ((((((32 : Nat) * (z5 - (1 : Nat))) + (bl (List.getD z12 (z5 - (1 : Nat)) (0 : Nat)))) : Nat) : Int) + (1 : Int))) (2 : Int))); letI z4 := (IntKind.wrap IntKind.i64 (Int.tdiv z0 (32 : Int))); letI z1 := (IntKind.wrap IntKind.i64 (z4 + (1 : Int))); letI z7 := List.length xs; letI z2 := ((2 : Nat) ^ (((((32 : Nat) * (z7 - (1 : Nat))) + (bl (List.getD xs (z7 - (1 : Nat)) (0 : Nat)))) + (1 : Nat)) / (2 : Nat))); letI z10 := Int.toNat z1; letI z6 := (List.replicate z10 (D.v (Value.int IntKind.u32 (0 : Int)))); letI z11 := ((0 : Nat) + ((Int.toNat z4) * (1 : Nat))); letI z13 := (Int.tmod z0 (32 : Int)); letI z3 := (List.set z6 z11 (D.v (Value.int IntKind.u32 (IntKind.wrap IntKind.u32 ((1 : Int) * ((2 : Int) ^ (Min.min (Int.toNat z13) (32 : Nat)))))))); letI z8 := (D.ro (List.length (dg (sq (nv xs)))) (u32s (dg (sq (nv xs))))); letI z9 := ((32 : Int) ≠ (0 : Int)); letI z14 := ([] : List (Option Blk)); letI z15 := (List.length (dg z2)); letI z16 := (D.ro z7 (u32s xs)); (True ∧ (True ∧ (True ∧ (True ∧ (pcond (((z7 : Nat) : Int) == (0 : Int)) (True ∧ (True ∧ (True ∧ ((D.ro (0 : Nat) ([] : List D)) = z8)))) (True ∧ (((((u32s xs) = (u32s z12)) ∧ (z7 = z5)) ∧ (((0 : Nat) < z5) ∧ ((z5 ≤ (1000000 : Nat)) ∧ (Dig z12)))) ∧ (True ∧ (((2 : Int) ≠ (0 : Int)) ∧ (True ∧ (True ∧ (z9 ∧ (True ∧ ((((0 : Int) ≤ z1) ∧ ((z1 ≤ z1) ∧ ((((4 : Int) * z1) ≤ (281474976710656 : Int)) ∧ (z1 ≤ (9223372036854775807 : Int))))) ∧ (True ∧ (True ∧ (True ∧ (z9 ∧ (True ∧ (z9 ∧ (((0 : Int) ≤ z13) ∧ ((((0 : Int) ≤ z4) ∧ (z4 < ((z10 : Nat) : Int))) ∧ ((((1 : Nat) = (1 : Nat)) ∧ ((z11 + (1 : Nat)) ≤ (List.length z6))) ∧ (((((0 : Nat) < (nv xs)) ∧ (((0 : Nat) < z2) ∧ (z15 ≤ (40000 : Nat)))) ∧ ((nv xs) < ((z2 + (1 : Nat)) * (z2 + (1 : Nat))))) ∧ (((Bool.true = Bool.true) ∧ ((z14 = z14) ∧ ((True ∧ (z16 = z16)) ∧ ((((NamelessL z3) ∧ (((0 : Nat) < (1 : Nat)) ∧ (((0 : Nat) + (z10 * (1 : Nat))) ≤ (List.length z3)))) ∧ ((D.ro z10 (List.take (z10 * (1 : Nat)) (List.drop (0 : Nat) z3))) = (D.ro z15 (u32s (dg z2))))) ∧ True)))) ∧ ((Unit → (False → False)) ∧ (∀ (r : Nat), ((((r * r) ≤ (nv xs)) ∧ ((nv xs) < ((r + (1 : Nat)) * (r + (1 : Nat))))) → (True ∧ (True ∧ ((D.ro (List.length (dg r)) (u32s (dg r))) = z8)))))))))))))))))))))))))))))))) (by kernel_rfl) ?_
  simp only [true_and, and_true, and_self, IsInt_lit, IsBool_lit, IsStr_lit, Bool.not_eq_true', Bool.not_eq_false', Bool.not_true, Bool.not_false, Int.reduceLE, Int.reduceLT, Int.reduceNeg, Nat.le_refl, Int.le_refl, Nat.reduceLT, Nat.reduceLeDiff, Nat.reduceEqDiff, D.v.injEq, D.tup.injEq, D.agg.injEq, D.ro.injEq, List.cons.injEq, Value.int.injEq, Value.bool.injEq, pcond_true, pcond_false, NamelessL, Nameless, Nat.reduceMul, Nat.reduceAdd, Nat.zero_add, Int.toNat_natCast, unu_u32s]
  obtain ⟨hl, gx⟩ := hpre
  have dx : Dig xs := by rw [gx]; exact dg_dig _
  refine pcond_intro (fun h => ?_) (fun h => ?_)
  · have h0 : xs = [] := List.eq_nil_of_length_eq_zero (by simp at h; simp [h])
    subst h0
    have : sq (nv []) = 0 := (sq_eq (by decide) (by decide)).symm
    rw [this, dg_zero]
    exact ⟨rfl, rfl⟩
  · have h0 : 0 < xs.length := by
      have : (xs.length : Int) ≠ 0 := by simpa using h
      omega
    have hx : 0 < nv xs := by
      rcases Nat.eq_zero_or_pos (nv xs) with h1 | h1
      · rw [h1, dg_zero] at gx; rw [gx] at h0; simp at h0
      · exact h1
    have hlt := nv_lt_bl' dx h0
    have b32 := bl32 (dx.get (xs.length - 1))
    generalize hL : 32 * (xs.length - 1) + bl (xs.getD (xs.length - 1) 0) = L at *
    have w1 : IntKind.i64.wrap ((L : Int) + 1) = ((L + 1 : Nat) : Int) := by rw [wrap_i64_of (by omega) (by omega)]; omega
    have w2 : IntKind.i64.wrap (((L + 1 : Nat) : Int).tdiv 2) = (((L + 1) / 2 : Nat) : Int) := by
      rw [Int.tdiv_eq_ediv_of_nonneg (by omega), wrap_i64_of (by omega) (by omega)]; omega
    rw [w1, w2]
    generalize hb : (L + 1) / 2 = b at *
    have w3 : IntKind.i64.wrap ((b : Int).tdiv 32) = ((b / 32 : Nat) : Int) := by
      rw [Int.tdiv_eq_ediv_of_nonneg (by omega), wrap_i64_of (by omega) (by omega)]; omega
    have w4 : (b : Int).tmod 32 = ((b % 32 : Nat) : Int) := by rw [Int.tmod_eq_emod_of_nonneg (by omega)]; omega
    have w5 : IntKind.i64.wrap (((b / 32 : Nat) : Int) + 1) = ((b / 32 + 1 : Nat) : Int) := by rw [wrap_i64_of (by omega) (by omega)]; omega
    have hp : 2 ^ (b % 32) < 4294967296 := Nat.pow_lt_pow_right (show 1 < 2 by decide) (show b % 32 < 32 by omega)
    have w6 : IntKind.u32.wrap (1 * 2 ^ min (b % 32) 32) = ((2 ^ (b % 32) : Nat) : Int) := by
      rw [show min (b % 32) 32 = b % 32 by omega, Int.one_mul]
      have : (2 : Int) ^ (b % 32) = ((2 ^ (b % 32) : Nat) : Int) := by simp
      rw [this]
      clear this
      generalize 2 ^ (b % 32) = P at *
      exact wrap_u32_of (by omega) (by omega)
    have e0 : List.replicate (b / 32 + 1) (D.v (Value.int IntKind.u32 0)) = u32s (List.replicate (b / 32 + 1) 0) := u32s_replicate _ 0
    obtain ⟨p1, p2⟩ := pow_list b
    have hlen : (dg (2 ^ b)).length = b / 32 + 1 := by rw [← p2]; simp
    simp only [w3, w4, w5, Int.toNat_natCast, Nat.mul_one, w6, e0, u32s_put, p2, u32s_length, hlen, List.length_replicate]
    have hk : List.take (b / 32 + 1) (List.drop 0 (u32s (dg (2 ^ b)))) = u32s (dg (2 ^ b)) := by
      rw [List.drop_zero]; exact List.take_of_length_le (by simp [u32s_length, hlen])
    have hsq : nv xs < (2 ^ b + 1) * (2 ^ b + 1) := by
      have h3 := Nat.pow_le_pow_right (show 0 < 2 by decide) (show L ≤ b + b by omega)
      rw [Nat.pow_add] at h3
      have h4 : 2 ^ b * 2 ^ b ≤ (2 ^ b + 1) * (2 ^ b + 1) := Nat.mul_le_mul (by omega) (by omega)
      omega
    refine ⟨⟨h0, by omega, dx⟩, by omega, by omega, ⟨by omega, by omega, by omega⟩, by omega, by omega, by omega, ⟨by omega, by omega⟩, Nat.le_refl _, ⟨⟨hx, Nat.pow_pos (by decide), by omega⟩, hsq⟩, ⟨⟨u32s_nameless _, Nat.le_refl _⟩, trivial, hk⟩, fun _ h => h, fun r hr => ?_⟩
    rw [sq_eq hr.1 hr.2]
    exact ⟨rfl, rfl⟩
noncomputable def ent_iroot : Ent := fun ds => match ds with
  | [.ro n_xs ys_xs] => some (.ro (dg (sq (nv (unu ys_xs)))).length (u32s (dg (sq (nv (unu ys_xs))))), (ys_xs = u32s (unu ys_xs) ∧ n_xs = (unu ys_xs).length) ∧ rHyp (unu ys_xs))
  | _ => none
theorem ent_iroot_ok : EntOk Try.prog 63 ent_iroot := by
  intro ds d c h hc; unfold ent_iroot at h; split at h
  · rename_i n_xs ys_xs; obtain ⟨rfl, rfl⟩ := pair_inj h
    obtain ⟨⟨h1, h2⟩, hc⟩ := hc; subst h2; generalize (unu ys_xs) = xs at *; subst h1
    exact iroot_pure xs hc
  · cases h
theorem sq_le (x : Nat) : sq x ≤ x := by
  obtain ⟨h, _⟩ := sq_spec x
  rcases Nat.eq_zero_or_pos (sq x) with h0 | h0
  · omega
  · have := Nat.mul_le_mul_left (sq x) (show 1 ≤ sq x from h0)
    omega
theorem hRoot_pure (xn : Bool) (xs : List Nat) (hpre : LenOk xs) : PureJ Try.prog 19 [.agg [.v (.bool xn), .ro xs.length (u32s xs)]] (d_ie (gcS (validL xn xs && !xn) (sq (nv xs)))) := by
  refine pureJ_of_vcpN (call := (addPure 33 ent_iValid (addPure 63 ent_iroot (addPure 54 ent_isigned noCalls)))) (lp := fun _ => none) (N := 10) T_ok mixed (addPure_ok ent_iValid_ok (addPure_ok ent_iroot_ok (addPure_ok ent_isigned_ok noCalls_ok))) Try.func19 rfl (by decide) (by kernel_rfl) (by kernel_rfl) (LpAllP.none _) (by (simp [NamelessL, Nameless, d_ie, d_int, u32s_nameless]; done)) (by (simp [NamelessL, Nameless, d_ie, d_int, u32s_nameless]; done)) ?_
  refine of_eq (B := letI z3 := (gcS ((validL xn xs) && (!xn)) (sq (nv xs))); letI z10 := (Prod.snd (Prod.fst z3)); letI z0 := (D.tup [(D.agg [(D.v (Value.bool (Prod.fst (Prod.fst z3)))), (D.ro (List.length z10) (u32s z10))]), (D.v (Value.int IntKind.i64 (Prod.snd z3)))]); letI z5 := ((2 : Nat) ≤ (2 : Nat)); letI z8 := (((2 : Nat) = (2 : Nat)) ∧ z5); letI z7 := ((True ∧ (True ∧ True)) ∧ (True ∧ True)); letI z1 := (True ∧ (z8 ∧ (True ∧ ((z5 ∧ True) ∧ (z7 ∧ ((D.tup [(D.agg [(D.v (Value.bool Bool.false)), (D.ro (0 : Nat) ([] : List D))]), (D.v (Value.int IntKind.i64 (1 : Int)))]) = z0)))))); letI z4 := (unu (u32s xs)); letI z9 := (dg (sq (nv z4))); letI z2 := (unu (u32s z9)); letI z6 := (((u32s xs) = (u32s z4)) ∧ ((List.length xs) = (List.length z4))); (True ∧ (True ∧ (True ∧ (z5 ∧ ((z6 ∧ ((List.length z4) ≤ (1000000000000 : Nat))) ∧ (True ∧ (True ∧ (pcond (!(validL xn z4)) (True ∧ z1) (True ∧ ((((0 : Nat) < (2 : Nat)) ∧ (IsBool (D.v (Value.bool xn)))) ∧ (True ∧ (pcond xn z1 (True ∧ (((1 : Nat) < (2 : Nat)) ∧ ((z6 ∧ (rHyp z4)) ∧ (((((u32s z9) = (u32s z2)) ∧ ((List.length z9) = (List.length z2))) ∧ ((List.length z2) ≤ (1000000 : Nat))) ∧ (True ∧ (True ∧ (z8 ∧ (True ∧ ((z5 ∧ True) ∧ (z7 ∧ ((D.tup [(D.agg [(D.v (Value.bool (sigN Bool.false z2))), (D.ro (List.length (sigL z2)) (u32s (sigL z2)))]), (D.v (Value.int IntKind.i64 (sigE z2)))]) = z0)))))))))))))))))))))))) (by kernel_rfl) ?_
  simp only [true_and, and_true, and_self, IsInt_lit, IsBool_lit, IsStr_lit, Bool.not_eq_true', Bool.not_eq_false', Bool.not_true, Bool.not_false, Int.reduceLE, Int.reduceLT, Int.reduceNeg, Nat.le_refl, Int.le_refl, Nat.reduceLT, Nat.reduceLeDiff, Nat.reduceEqDiff, D.v.injEq, D.tup.injEq, D.agg.injEq, D.ro.injEq, List.cons.injEq, Value.int.injEq, Value.bool.injEq, pcond_true, pcond_false, NamelessL, Nameless, Nat.reduceMul, Nat.reduceAdd, Nat.zero_add, Int.toNat_natCast, unu_u32s]
  obtain ⟨lx, dx⟩ := hpre
  refine ⟨by omega, pcond_intro (fun h => ?_) (fun h => pcond_intro (fun h2 => ?_) (fun h2 => ?_))⟩
  · simp only [Bool.not_eq_true'] at h; simp [gcS, h, u32s]
  · simp [gcS, h2, u32s]
  · simp only [Bool.not_eq_false'] at h
    obtain ⟨gx, lx4⟩ := valid_good dx h
    have lg : (dg (sq (nv xs))).length ≤ 400 := Nat.le_trans (dg_len_mono (sq_le _)) (by rw [← gx.1]; exact lx4)
    obtain ⟨s1, s2, s3⟩ := sig_nat lg
    rw [s1, s2, s3, h, h2]
    exact ⟨⟨by omega, gx.1⟩, by omega, ⟨rfl, rfl, rfl⟩, rfl⟩
noncomputable def ent_hRoot : Ent := fun ds => match ds with
  | [.agg [.v (.bool xn), .ro n_xs ys_xs]] => some (d_ie (gcS (validL xn (unu ys_xs) && !xn) (sq (nv (unu ys_xs)))), (ys_xs = u32s (unu ys_xs) ∧ n_xs = (unu ys_xs).length) ∧ LenOk (unu ys_xs))
  | _ => none
theorem ent_hRoot_ok : EntOk Try.prog 19 ent_hRoot := by
  intro ds d c h hc; unfold ent_hRoot at h; split at h
  · rename_i xn n_xs ys_xs; obtain ⟨rfl, rfl⟩ := pair_inj h
    obtain ⟨⟨h1, h2⟩, hc⟩ := hc; subst h2; generalize (unu ys_xs) = xs at *; subst h1
    exact hRoot_pure _ xs hc
  · cases h
end Go.Proofs.Ythnhfkpihbjddaa
end
