import Derived.Test.YthnhfkpihbjddaaZKv21
import Derived.Test.YthnhfkpihbjddaaZKv19
import Derived.Test.YthnhfkpihbjddaaZKv11
import Derived.Test.YthnhfkpihbjddaaZKv17
import Derived.Test.YthnhfkpihbjddaaZKv6
import Derived.Test.YthnhfkpihbjddaaZKv4
import Derived.ChangeArms
import Derived.OpenShut
import Derived.FnData
section
namespace Go.Proofs.Ythnhfkpihbjddaa
open Go.VD
set_option linter.unusedVariables false
set_option linter.unusedSimpArgs false
set_option maxRecDepth 100000
theorem plus_nv {xs ys : List Nat} (hx : Dig xs) (hy : Dig ys) : nv (plusL xs ys) = nv xs + nv ys := by
  unfold plusL
  rw [nv_dgn]
  apply Nat.mod_eq_of_lt
  unfold plusN
  split
  · rename_i h
    rw [Nat.add_zero]
    rcases Nat.div_eq_zero_iff.1 h with h | h
    · have := pow_pos32 (plusM xs ys); omega
    · exact h
  · exact plus_lt hx hy
def lp_grootLoop (xn : Bool) (xs : List Nat) : LoopO := loopRule2 (α := Nat) (β := Unit) (γ := Nat) [some 0, some 1] (fun r => ((xs = dg (nv xs) ∧ 0 < nv xs) ∧ 0 < r ∧ (dg r).length ≤ 40000) ∧ nv xs < (r + 1) * (r + 1)) (fun r => [(1, .ptr 0 0), (2, .ptr 1 0), (4, d_lr r)]) (fun _ => [d_bx xn xs, some ⟨24, [.v (.bool false), .v (.slice none 0 0)], true⟩]) (4294967296 ^ (xs.length / 2 + 1)) (fun _ => False) (fun _ => (.exit 0, [], [])) (fun r => r * r ≤ nv xs ∧ nv xs < (r + 1) * (r + 1)) (fun r => (.ret, [(2, .ptr 0 0), (3, .v (.int .i64 0))], [some ⟨24, [.v (.bool false), .ro (dg r).length (u32s (dg r))], true⟩]))
theorem grootLoop_rule (xn : Bool) (xs : List Nat) (hpre : LenOk xs) : LRuleP Try.prog Try.f20.ntmps (loopAt ((Try.f20.body).getD .skip) 7) (lp_grootLoop xn xs) := by
  refine lrule_of2 (α := Nat) (β := Unit) (γ := Nat) (call := (addPure 55 ent_gdiv (addPure 57 ent_plus (addPure 64 ent_gback (addPure 61 ent_cmpr (addPure 60 ent_made noCalls)))))) (lp := fun _ => none) (N := 10) T_ok mixed (addPure_ok ent_gdiv_ok (addPure_ok ent_plus_ok (addPure_ok ent_gback_ok (addPure_ok ent_cmpr_ok (addPure_ok ent_made_ok noCalls_ok))))) (fun r => r) (by kernel_rfl) (LpAllP.none _) ?_
  intro x hJ
  refine of_eq (B := letI z1 := (unu (u32s (dg x))); letI z13 := (unu (u32s xs)); letI z18 := (dg ((nv z13) / (nv z1))); letI z4 := (u32s z18); letI z0 := (plusL z1 (unu z4)); letI z14 := (unu (u32s z0)); letI z2 := (dg ((nv z14) / (2 : Nat))); letI z17 := List.length z1; letI z3 := (((u32s (dg x)) = (u32s z1)) ∧ ((List.length (dg x)) = z17)); letI z5 := (Option.some (Blk.mk (24 : Nat) [(D.v (Value.bool xn)), (D.ro (List.length xs) (u32s xs))] Bool.true)); letI z6 := (Option.some (Blk.mk (24 : Nat) [(D.v (Value.bool (madeN Bool.false z1))), (D.ro (List.length (trimL z1)) (u32s (trimL z1)))] Bool.true)); letI z7 := (Prod.mk (3 : Nat) (D.v (Value.int IntKind.i64 (0 : Int)))); letI z23 := (Exit.exit (0 : Nat)); letI z19 := ([] : List (Prod Nat D)); letI z8 := (Prod.mk z23 (Prod.mk z19 ([] : List (Option Blk)))); letI z9 := (Prod.mk (2 : Nat) (D.ptr (1 : Nat) (0 : Nat))); letI z10 := (D.v (Value.bool Bool.false)); letI z11 := (D.ptr (0 : Nat) (0 : Nat)); letI z12 := (D.v (Value.slice (Option.none) (0 : Nat) (0 : Nat))); letI z15 := (unu (u32s z2)); letI z16 := (List (Option Nat)); letI z20 := (Prod.mk (2 : Nat) z11); letI z21 := (Prod.mk (1 : Nat) z11); letI z22 := (List.length (unu z4)); (True ∧ (((1 : Nat) < (2 : Nat)) ∧ (True ∧ ((((((u32s xs) = (u32s z13)) ∧ ((List.length xs) = (List.length z13))) ∧ z3) ∧ (dHyp z13 z1)) ∧ (True ∧ (True ∧ (True ∧ (True ∧ (True ∧ (True ∧ (True ∧ ((((z4 = (u32s (unu z4))) ∧ ((List.length z18) = z22)) ∧ (z3 ∧ ((z17 ≤ (400000 : Nat)) ∧ ((z22 ≤ (400000 : Nat)) ∧ ((Dig z1) ∧ (Dig (unu z4))))))) ∧ (((((u32s z0) = (u32s z14)) ∧ ((List.length z0) = (List.length z14))) ∧ ((((List.length z14) ≤ (1000000 : Nat)) ∧ (Dig z14)) ∧ (((0 : Int) ≤ (1 : Int)) ∧ ((1 : Int) < (32 : Int))))) ∧ (True ∧ (True ∧ (True ∧ ((z3 ∧ ((((u32s z2) = (u32s z15)) ∧ ((List.length z2) = (List.length z15))) ∧ ((List.length z15) ≤ (1000000000000 : Nat)))) ∧ (True ∧ (pcond (Decidable.decide ((0 : Int) ≤ (cmpL z15 z1))) (True ∧ ((z3 ∧ (z17 ≤ (1000000 : Nat))) ∧ ((((2 : Nat) = (2 : Nat)) ∧ ((2 : Nat) ≤ (2 : Nat))) ∧ (True ∧ ((∃ (r : Unit), (∃ (kp : z16), (False ∧ ((Exit.ret = z23) ∧ (viewAll kp z19 [z5, z6] (Prod.fst (Prod.snd ((fun (x_1 : Unit) => z8) r))) (Prod.snd (Prod.snd ((fun (x_1 : Unit) => z8) r)))))))) ∨ (∃ (r : Nat), (∃ (kp : z16), ((((r * r) ≤ (nv xs)) ∧ ((nv xs) < ((r + (1 : Nat)) * (r + (1 : Nat))))) ∧ ((Exit.ret = Exit.ret) ∧ (viewAll kp [z9, z7] [z5, z6] (Prod.fst (Prod.snd ((fun (r_1 : Nat) => (Prod.mk Exit.ret (Prod.mk [z20, z7] [(Option.some (Blk.mk (24 : TypeId) [z10, (D.ro (List.length (dg r_1)) (u32s (dg r_1)))] Bool.true))]))) r))) (Prod.snd (Prod.snd ((fun (r_1 : Nat) => (Prod.mk Exit.ret (Prod.mk [z20, z7] [(Option.some (Blk.mk (24 : TypeId) [z10, (D.ro (List.length (dg r_1)) (u32s (dg r_1)))] Bool.true))]))) r))))))))))))) (True ∧ (True ∧ (∃ (y : Nat), (∃ (kp : z16), ((y < x) ∧ (((((xs = (dg (nv xs))) ∧ ((0 : Nat) < (nv xs))) ∧ (((0 : Nat) < y) ∧ ((List.length (dg y)) ≤ (40000 : Nat)))) ∧ ((nv xs) < ((y + (1 : Nat)) * (y + (1 : Nat))))) ∧ (viewAll kp [z21, z9, (Prod.mk (4 : Nat) (D.ro (List.length z2) (u32s z2)))] [z5, (Option.some (Blk.mk (24 : Nat) [z10, z12] Bool.true))] [z21, z9, (Prod.mk (4 : Nat) (d_lr y))] [(d_bx xn xs), (Option.some (Blk.mk (24 : TypeId) [z10, z12] Bool.true))]))))))))))))))))))))))))))) (by kernel_rfl) ?_
  simp only [true_and, and_true, and_self, IsInt_lit, IsBool_lit, IsStr_lit, Bool.not_eq_true', Bool.not_eq_false', Bool.not_true, Bool.not_false, Int.reduceLE, Int.reduceLT, Int.reduceNeg, Nat.le_refl, Int.le_refl, Nat.reduceLT, Nat.reduceLeDiff, Nat.reduceEqDiff, D.v.injEq, D.tup.injEq, D.agg.injEq, D.ro.injEq, List.cons.injEq, Value.int.injEq, Value.bool.injEq, pcond_true, pcond_false, NamelessL, Nameless, Nat.reduceMul, Nat.reduceAdd, Nat.zero_add, Int.toNat_natCast, unu_u32s] at *
  obtain ⟨hl, _⟩ := hpre
  obtain ⟨⟨⟨gx, hx⟩, hr, lr⟩, hb⟩ := hJ
  obtain ⟨⟨n1, n2⟩, n3⟩ := newton hx hr hb
  have l1 := dg_len_mono (Nat.div_le_self (nv xs) x)
  rw [← gx] at l1
  have l2 := plusL_len (dg x) (dg (nv xs / x))
  have l2' : plusM (dg x) (dg (nv xs / x)) ≤ 41000 := by unfold plusM; omega
  have e1 := plus_nv (dg_dig x) (dg_dig (nv xs / x))
  have d1 : Dig (plusL (dg x) (dg (nv xs / x))) := by unfold plusL; exact dgn_dig _ _
  have l3 := dg_len_mono (Nat.div_le_self (x + nv xs / x) 2)
  have l4 := add_len x (nv xs / x)
  have m := madeN_dg false x
  simp only [nv_dg] at e1 ⊢
  simp only [e1, m.1, m.2, Bool.false_and]
  generalize hn : (x + nv xs / x) / 2 = n at *
  have hc : decide (0 ≤ cmpL (dg n) (dg x)) = decide (x ≤ n) := by
    rw [cmpL_dg]; unfold cmpN
    rw [decide_eq_decide]
    constructor
    · intro h; refine Nat.le_of_not_lt fun hlt => ?_; rw [if_pos hlt] at h; omega
    · intro h; rw [if_neg (by omega)]; split <;> omega
  rw [hc]
  refine ⟨⟨⟨⟨by omega, by omega⟩, gx, by rw [nv_dg]⟩, by rw [nv_dg]; exact hr⟩, ⟨by omega, by omega, dg_dig _, dg_dig _⟩, ⟨by omega, d1⟩, by omega, pcond_intro (fun h => ⟨by omega, .inr ⟨x, [some 1], ⟨n3 (by simpa using h), hb⟩, ?_⟩⟩) (fun h => ⟨n, [some 0, some 1], by simpa using h, ⟨⟨⟨gx, hx⟩, n1, ?_⟩, n2⟩, ?_⟩)⟩
  · refine of_eq (B := letI z3 := (D.v (Value.bool Bool.false)); letI z1 := (D.ro (List.length (dg x)) (u32s (dg x))); letI z0 := (Option.some (Blk.mk (24 : Nat) [z3, z1] Bool.true)); letI z2 := (D.v (Value.int IntKind.i64 (0 : Int))); letI z4 := (D.ptr (0 : Nat) (0 : Nat)); letI z5 := ([] : List (Option Blk)); ((Bool.true = Bool.true) ∧ ((((z0 = z0) ∧ (NamelessL [z3, z1])) ∧ (z5 = z5)) ∧ ((True ∧ (z4 = z4)) ∧ ((True ∧ (z2 = z2)) ∧ True))))) (by kernel_rfl) ?_
    simp [NamelessL, Nameless, u32s_nameless]
  · exact Nat.le_trans (dg_len_mono (Nat.le_of_lt (by simpa using h))) lr
  · refine of_eq (B := letI z5 := (D.v (Value.bool Bool.false)); letI z2 := (D.v (Value.slice (Option.none) (0 : Nat) (0 : Nat))); letI z0 := (Option.some (Blk.mk (24 : Nat) [z5, z2] Bool.true)); letI z9 := (D.v (Value.bool xn)); letI z4 := (D.ro (List.length xs) (u32s xs)); letI z1 := (Option.some (Blk.mk (24 : Nat) [z9, z4] Bool.true)); letI z3 := (D.ro (List.length (dg n)) (u32s (dg n))); letI z6 := (D.ptr (0 : Nat) (0 : Nat)); letI z7 := (D.ptr (1 : Nat) (0 : Nat)); letI z8 := ([] : List (Option Blk)); ((Bool.true = Bool.true) ∧ ((((z1 = z1) ∧ (NamelessL [z9, z4])) ∧ (((z0 = z0) ∧ (NamelessL [z5, z2])) ∧ (z8 = z8))) ∧ ((True ∧ (z6 = z6)) ∧ ((True ∧ (z7 = z7)) ∧ ((True ∧ (z3 = z3)) ∧ True)))))) (by kernel_rfl) ?_
    simp [NamelessL, Nameless, u32s_nameless]
theorem one_list (n : Nat) : (List.replicate (n + 1) 0).set n 1 = dg (4294967296 ^ n) := by
  have e : nv ((List.replicate (n + 1) 0).set n 1) = 4294967296 ^ n := by
    have := nv_put (List.replicate (n + 1) 0) n 1 (by simp)
    rw [show (List.replicate (n + 1) 0).getD n 0 = 0 by simp [List.getD_eq_getElem?_getD, List.getElem?_replicate], nv_repl0] at this
    omega
  rw [← e]
  refine (canon_dg ⟨?_, .inr ?_⟩).symm
  · intro y hy
    rcases List.mem_or_eq_of_mem_set hy with h | h
    · rw [List.eq_of_mem_replicate h]; decide
    · rw [h]; decide
  · rw [List.length_set, List.length_replicate, Nat.add_sub_cancel]
    simp [List.getD_eq_getElem?_getD]
theorem gRoot_pure (xn : Bool) (xs : List Nat) (hpre : LenOk xs) : PureJ Try.prog 20 [.agg [.v (.bool xn), .ro xs.length (u32s xs)]] (d_ie (gcS (validL xn xs && !xn) (sq (nv xs)))) := by
  refine pureJ_of_vcpN (call := (addPure 21 ent_Valid (addPure 60 ent_made noCalls))) (lp := fun k => bif Nat.beq k 7 then some (lp_grootLoop xn xs) else none) (N := 10) T_ok mixed (addPure_ok ent_Valid_ok (addPure_ok ent_made_ok noCalls_ok)) Try.func20 rfl (by decide) (by kernel_rfl) (by kernel_rfl) (of_eq (B := LRuleP Try.prog Try.f20.ntmps (loopAt ((Try.f20.body).getD .skip) 7) (lp_grootLoop xn xs) ∧ True) (by kernel_rfl) ⟨grootLoop_rule xn xs hpre, trivial⟩) (by (simp [NamelessL, Nameless, d_ie, d_int, u32s_nameless]; done)) (by (simp [NamelessL, Nameless, d_ie, d_int, u32s_nameless]; done)) ?_
  refine of_eq (B := letI z13 := List.length xs; letI z29 := ((z13 : Nat) : Int); letI z0 := (IntKind.wrap IntKind.i64 ((IntKind.wrap IntKind.i64 (Int.tdiv z29 (2 : Int))) + (2 : Int))); letI z7 := (gcS ((validL xn xs) && (!xn)) (sq (nv xs))); letI z25 := (Prod.snd (Prod.fst z7)); letI z1 := (D.tup [(D.agg [(D.v (Value.bool (Prod.fst (Prod.fst z7)))), (D.ro (List.length z25) (u32s z25))]), (D.v (Value.int IntKind.i64 (Prod.snd z7)))]); letI z14 := Int.toNat z0; letI z12 := (List.replicate z14 (D.v (Value.int IntKind.u32 (0 : Int)))); letI z30 := ((z14 : Nat) : Int); letI z5 := (IntKind.wrap IntKind.i64 (z30 - (1 : Int))); letI z17 := ((0 : Nat) + ((Int.toNat z5) * (1 : Nat))); letI z2 := (List.set z12 z17 (D.v (Value.int IntKind.u32 (1 : Int)))); letI z3 := ((4294967296 : Nat) ^ ((z13 / (2 : Nat)) + (1 : Nat))); letI z8 := ((2 : Nat) ≤ (2 : Nat)); letI z21 := (((2 : Nat) = (2 : Nat)) ∧ z8); letI z11 := ((True ∧ (True ∧ True)) ∧ (True ∧ True)); letI z6 := (D.v (Value.bool Bool.false)); letI z16 := (D.agg [z6, (D.ro (0 : Nat) ([] : List D))]); letI z4 := (True ∧ (z21 ∧ (True ∧ ((z8 ∧ True) ∧ (z11 ∧ ((D.tup [z16, (D.v (Value.int IntKind.i64 (1 : Int)))]) = z1)))))); letI z9 := (D.v (Value.slice (Option.none) (0 : Nat) (0 : Nat))); letI z19 := (D.v (Value.bool xn)); letI z28 := (D.ro z13 (u32s xs)); letI z10 := (Option.some (Blk.mk (24 : Nat) [z19, z28] Bool.true)); letI z15 := (Option.some (Blk.mk (24 : Nat) [z6, z9] Bool.true)); letI z18 := (unu (u32s xs)); letI z20 := (D.v (Value.int IntKind.i64 (0 : Int))); letI z22 := (D.ptr (0 : Nat) (0 : Nat)); letI z23 := (D.ptr (1 : Nat) (0 : Nat)); letI z24 := ([] : List (Option Blk)); letI z26 := ((1 : Nat) < (2 : Nat)); letI z27 := (List.length (dg z3)); (True ∧ (True ∧ (True ∧ (z8 ∧ (((((u32s xs) = (u32s z18)) ∧ (z13 = (List.length z18))) ∧ ((List.length z18) ≤ (1000000000000 : Nat))) ∧ (True ∧ (True ∧ (pcond (!(validL xn z18)) (True ∧ z4) (True ∧ ((((0 : Nat) < (2 : Nat)) ∧ (IsBool z19)) ∧ (True ∧ (pcond xn z4 (True ∧ (z26 ∧ (True ∧ (True ∧ (pcond (z29 == (0 : Int)) (True ∧ (z21 ∧ (True ∧ ((z8 ∧ True) ∧ (z11 ∧ ((D.tup [z16, z20]) = z1)))))) (True ∧ (z26 ∧ (True ∧ (((2 : Int) ≠ (0 : Int)) ∧ (True ∧ ((((0 : Int) ≤ z0) ∧ ((z0 ≤ z0) ∧ ((((4 : Int) * z0) ≤ (281474976710656 : Int)) ∧ (z0 ≤ (9223372036854775807 : Int))))) ∧ (True ∧ (True ∧ (True ∧ (True ∧ (True ∧ ((((0 : Int) ≤ z5) ∧ (z5 < z30)) ∧ ((((1 : Nat) = (1 : Nat)) ∧ ((z17 + (1 : Nat)) ≤ (List.length z12))) ∧ (((((xs = (dg (nv xs))) ∧ ((0 : Nat) < (nv xs))) ∧ (((0 : Nat) < z3) ∧ (z27 ≤ (40000 : Nat)))) ∧ ((nv xs) < ((z3 + (1 : Nat)) * (z3 + (1 : Nat))))) ∧ (((Bool.true = Bool.true) ∧ ((((z10 = z10) ∧ (NamelessL [z19, z28])) ∧ (((z15 = z15) ∧ (NamelessL [z6, z9])) ∧ (z24 = z24))) ∧ ((True ∧ (z22 = z22)) ∧ ((True ∧ (z23 = z23)) ∧ ((((NamelessL z2) ∧ (((0 : Nat) < (1 : Nat)) ∧ (((0 : Nat) + (z14 * (1 : Nat))) ≤ (List.length z2)))) ∧ ((D.ro z14 (List.take (z14 * (1 : Nat)) (List.drop (0 : Nat) z2))) = (D.ro z27 (u32s (dg z3))))) ∧ True))))) ∧ ((Unit → (False → False)) ∧ (∀ (r : Nat), ((((r * r) ≤ (nv xs)) ∧ ((nv xs) < ((r + (1 : Nat)) * (r + (1 : Nat))))) → ((z8 ∧ True) ∧ (z11 ∧ ((D.tup [(D.agg [z6, (D.ro (List.length (dg r)) (u32s (dg r)))]), z20]) = z1))))))))))))))))))))))))))))))))))))))) (by kernel_rfl) ?_
  simp only [true_and, and_true, and_self, IsInt_lit, IsBool_lit, IsStr_lit, Bool.not_eq_true', Bool.not_eq_false', Bool.not_true, Bool.not_false, Int.reduceLE, Int.reduceLT, Int.reduceNeg, Nat.le_refl, Int.le_refl, Nat.reduceLT, Nat.reduceLeDiff, Nat.reduceEqDiff, D.v.injEq, D.tup.injEq, D.agg.injEq, D.ro.injEq, List.cons.injEq, Value.int.injEq, Value.bool.injEq, pcond_true, pcond_false, NamelessL, Nameless, Nat.reduceMul, Nat.reduceAdd, Nat.zero_add, Int.toNat_natCast, unu_u32s]
  obtain ⟨lx, dx⟩ := hpre
  refine ⟨by omega, pcond_intro (fun h => ?_) (fun h => pcond_intro (fun h2 => ?_) (fun h2 => pcond_intro (fun h3 => ?_) (fun h3 => ?_)))⟩
  · simp only [Bool.not_eq_true'] at h; simp [gcS, h, u32s]
  · simp [gcS, h2, u32s]
  · simp only [Bool.not_eq_false'] at h
    have h0 : xs = [] := List.eq_nil_of_length_eq_zero (by simp at h3; simp [h3])
    subst h0
    have : sq (nv []) = 0 := (sq_eq (by decide) (by decide)).symm
    rw [this, h, h2]
    simp [gcS, dg_zero, u32s]
  · simp only [Bool.not_eq_false'] at h
    obtain ⟨gx, lx4⟩ := valid_good dx h
    have gx := gx.1
    have h0 : 0 < xs.length := by
      have : (xs.length : Int) ≠ 0 := by simpa using h3
      omega
    have hx : 0 < nv xs := by
      rcases Nat.eq_zero_or_pos (nv xs) with h1 | h1
      · rw [h1, dg_zero] at gx; rw [gx] at h0; simp at h0
      · exact h1
    have w1 : IntKind.i64.wrap (IntKind.i64.wrap ((xs.length : Int).tdiv 2) + 2) = ((xs.length / 2 + 1 + 1 : Nat) : Int) := by
      rw [Int.tdiv_eq_ediv_of_nonneg (by omega), wrap_i64_of (n := (xs.length : Int) / 2) (by omega) (by omega), wrap_i64_of (by omega) (by omega)]; omega
    have hlt := nv_lt dx
    have hP : nv xs < (4294967296 ^ (xs.length / 2 + 1) + 1) * (4294967296 ^ (xs.length / 2 + 1) + 1) := by
      have h3 := Nat.pow_le_pow_right (show 0 < 4294967296 by decide) (show xs.length ≤ (xs.length / 2 + 1) + (xs.length / 2 + 1) by omega)
      rw [Nat.pow_add] at h3
      have h4 : 4294967296 ^ (xs.length / 2 + 1) * 4294967296 ^ (xs.length / 2 + 1) ≤ (4294967296 ^ (xs.length / 2 + 1) + 1) * (4294967296 ^ (xs.length / 2 + 1) + 1) := Nat.mul_le_mul (by omega) (by omega)
      omega
    rw [w1]
    generalize hk : xs.length / 2 + 1 = k at *
    have w2 : IntKind.i64.wrap (((k + 1 : Nat) : Int) - 1) = ((k : Nat) : Int) := by rw [wrap_i64_of (by omega) (by omega)]; omega
    have e0 : (List.replicate (k + 1) (D.v (Value.int IntKind.u32 0))).set k (D.v (Value.int IntKind.u32 1)) = u32s (dg (4294967296 ^ k)) := by
      rw [← one_list, ← u32s_put, ← u32s_replicate]; rfl
    have hlen : (dg (4294967296 ^ k)).length = k + 1 := by rw [← one_list]; simp
    have ht : List.take (k + 1) (List.drop 0 (u32s (dg (4294967296 ^ k)))) = u32s (dg (4294967296 ^ k)) := by
      rw [List.drop_zero]; exact List.take_of_length_le (by simp [u32s_length, hlen])
    simp only [Int.toNat_natCast, w2, Nat.mul_one, e0, ht, hlen, u32s_length, List.length_replicate]
    refine ⟨by omega, ⟨by omega, by omega, by omega⟩, ⟨by omega, by omega⟩, Nat.le_refl _, ⟨⟨⟨gx, hx⟩, Nat.pow_pos (by decide), by omega⟩, hP⟩, ⟨u32s_nameless _, ⟨u32s_nameless _, Nat.le_refl _⟩, trivial, trivial⟩, fun _ h => h, fun r hr => ?_⟩
    rw [← sq_eq hr.1 hr.2, h, h2]
    exact ⟨⟨rfl, rfl, rfl⟩, rfl⟩
noncomputable def ent_gRoot : Ent := fun ds => match ds with
  | [.agg [.v (.bool xn), .ro n_xs ys_xs]] => some (d_ie (gcS (validL xn (unu ys_xs) && !xn) (sq (nv (unu ys_xs)))), (ys_xs = u32s (unu ys_xs) ∧ n_xs = (unu ys_xs).length) ∧ LenOk (unu ys_xs))
  | _ => none
theorem ent_gRoot_ok : EntOk Try.prog 20 ent_gRoot := by
  intro ds d c h hc; unfold ent_gRoot at h; split at h
  · rename_i xn n_xs ys_xs; obtain ⟨rfl, rfl⟩ := pair_inj h
    obtain ⟨⟨h1, h2⟩, hc⟩ := hc; subst h2; generalize (unu ys_xs) = xs at *; subst h1
    exact gRoot_pure _ xs hc
  · cases h
end Go.Proofs.Ythnhfkpihbjddaa
end
section
namespace Go.Proofs.Ythnhfkpihbjddaa
open Go.VD
set_option linter.unusedVariables false
set_option linter.unusedSimpArgs false
set_option maxRecDepth 100000
theorem dg_nv_len {xs : List Nat} (hd : Dig xs) : (dg (nv xs)).length ≤ xs.length := dg_length_le (nv_lt hd)
theorem abs_iv (n : Bool) (xs : List Nat) : (iv n xs).natAbs = nv xs := by unfold iv; cases n <;> simp
theorem dvS_len {ok : Bool} {xn yn : Bool} {xs ys : List Nat} (dx : Dig xs) (dy : Dig ys) (lx : xs.length ≤ 1000) (ly : ys.length ≤ 1000) :
    (dvS ok (decide (nv ys = 0)) (iv xn xs) (iv yn ys)).1.2.length ≤ 1000 ∧ (dvS ok (decide (nv ys = 0)) (iv xn xs) (iv yn ys)).2.1.2.length ≤ 1000 := by
  unfold dvS
  cases ok
  · simp
  · by_cases h : nv ys = 0
    · simp [h]
    · have hb : iv yn ys ≠ 0 := fun e => by
        have := abs_iv yn ys
        rw [e] at this; simp at this; omega
      have h1 := Int.natAbs_ediv_le_natAbs (iv xn xs) (iv yn ys)
      rw [abs_iv] at h1
      have h2 := Int.emod_nonneg (iv xn xs) hb
      have h3 := Int.emod_lt (iv xn xs) hb
      rw [abs_iv] at h3
      have l1 := dg_nv_len dx
      have l2 := dg_nv_len dy
      simp only [h, decide_false, cond_true, cond_false]
      exact ⟨Nat.le_trans (Nat.le_trans (dg_len_mono h1) l1) lx, Nat.le_trans (Nat.le_trans (dg_len_mono (show (iv xn xs % iv yn ys).natAbs ≤ nv ys by omega)) l2) ly⟩
theorem gcS_len {ok : Bool} {G n : Nat} (h : (dg G).length ≤ n) : (gcS ok G).1.2.length ≤ n := by
  unfold gcS; cases ok
  · simp
  · exact h
theorem lawDivision_pure (xn : Bool) (xs : List Nat) (yn : Bool) (ys : List Nat) (hpre : Dig xs ∧ Dig ys) : PureJ Try.prog 3 [.agg [.v (.bool xn), .ro xs.length (u32s xs)], .agg [.v (.bool yn), .ro ys.length (u32s ys)]] (.v (.bool true)) := by
  refine pureJ_of_vcx (call := (addPure 11 ent_known (addPure 12 ent_gLarge (addPure 13 ent_hDivide (addPure 14 ent_gDivide (addPure 15 ent_lsame (addPure 16 ent_gSame (addPure 17 ent_hGcd (addPure 18 ent_gGcd (addPure 19 ent_hRoot (addPure 20 ent_gRoot noCalls))))))))))) (lp := fun _ => none) (N := 10) T_ok mixed (addPure_ok ent_known_ok (addPure_ok ent_gLarge_ok (addPure_ok ent_hDivide_ok (addPure_ok ent_gDivide_ok (addPure_ok ent_lsame_ok (addPure_ok ent_gSame_ok (addPure_ok ent_hGcd_ok (addPure_ok ent_gGcd_ok (addPure_ok ent_hRoot_ok (addPure_ok ent_gRoot_ok noCalls_ok)))))))))) Try.func3 rfl (by decide) (by kernel_rfl) (by kernel_rfl) (LpAll.none _) (by first | trivial | (simp only [NamelessL, Nameless, and_self, and_true, true_and]; done) | (simp [NamelessL, Nameless, u32s_nameless, namelessL_ints]; done)) (by first | trivial | (simp only [NamelessL, Nameless, and_self, and_true, true_and]; done) | (simp [NamelessL, Nameless, u32s_nameless, namelessL_ints]; done)) ?_
  refine of_eq (B := letI z12 := (unu (u32s xs)); letI z13 := (unu (u32s ys)); letI z24 := ((validL xn z12) && (validL yn z13)); letI z0 := (dvS z24 (Decidable.decide ((nv z13) = (0 : Nat))) (iv xn z12) (iv yn z13)); letI z1 := (gcS z24 (Nat.gcd (nv z12) (nv z13))); letI z20 := (((u32s ys) = (u32s z13)) ∧ ((List.length ys) = (List.length z13))); letI z5 := (((u32s xs) = (u32s z12)) ∧ ((List.length xs) = (List.length z12))); letI z2 := (z20 ∧ (z5 ∧ ((LenOk z12) ∧ (LenOk z13)))); letI z3 := (gcS ((validL xn z12) && (!xn)) (sq (nv z12))); letI z4 := ((2 : Nat) ≤ (2 : Nat)); letI z21 := (z5 ∧ (LenOk z12)); letI z8 := (((2 : Nat) = (2 : Nat)) ∧ z4); letI z19 := (D.v (Value.bool Bool.true)); letI z14 := (True ∧ (True ∧ (True ∧ (True ∧ ((D.v (Value.bool Bool.false)) = z19))))); letI z6 := (True ∧ (True ∧ (z4 ∧ (z21 ∧ (True ∧ (True ∧ (True ∧ (z8 ∧ (True ∧ (z4 ∧ (z21 ∧ (True ∧ (True ∧ (True ∧ (z8 ∧ (True ∧ (True ∧ (True ∧ z14)))))))))))))))))); letI z23 := (Prod.fst (Prod.snd z0)); letI z7 := (Prod.snd z23); letI z29 := (Prod.snd (Prod.fst z0)); letI z9 := (u32s z29); letI z30 := (Prod.snd (Prod.fst z1)); letI z10 := (u32s z30); letI z31 := (Prod.snd (Prod.fst z3)); letI z11 := (u32s z31); letI z32 := (List.length (unu z10)); letI z15 := ((z10 = (u32s (unu z10))) ∧ ((List.length z30) = z32)); letI z33 := (List.length (unu z11)); letI z16 := ((z11 = (u32s (unu z11))) ∧ ((List.length z31) = z33)); letI z34 := (List.length (unu z9)); letI z17 := ((z9 = (u32s (unu z9))) ∧ ((List.length z29) = z34)); letI z22 := (unu (u32s z7)); letI z18 := (((u32s z7) = (u32s z22)) ∧ ((List.length z7) = (List.length z22))); letI z25 := (Prod.snd (Prod.snd z0)); letI z26 := (Prod.fst (Prod.fst z0)); letI z27 := (Prod.fst (Prod.fst z1)); letI z28 := (Prod.fst (Prod.fst z3)); (True ∧ (True ∧ (True ∧ (True ∧ (True ∧ (z4 ∧ (z4 ∧ ((((4 : Nat) ≤ (16777216 : Nat)) ∧ ((2 : Nat) ≤ (9223372036854775807 : Nat))) ∧ (((((NamelessL [(D.v (Value.bool xn)), (D.ro (List.length xs) (u32s xs)), (D.v (Value.bool yn)), (D.ro (List.length ys) (u32s ys))]) ∧ (((0 : Nat) < (2 : Nat)) ∧ ((4 : Nat) ≤ (4 : Nat)))) ∧ True) ∧ (z20 ∧ (z5 ∧ True))) ∧ (pcond ((Decidable.decide ((40 : Nat) < (List.length z12))) || (Decidable.decide ((40 : Nat) < (List.length z13)))) (True ∧ (True ∧ (True ∧ (z19 = z19)))) (z4 ∧ (z4 ∧ (z2 ∧ (True ∧ (True ∧ (True ∧ (True ∧ (True ∧ (True ∧ (z8 ∧ (z8 ∧ (True ∧ (z4 ∧ (z4 ∧ (z2 ∧ (True ∧ (True ∧ (True ∧ (True ∧ (True ∧ (True ∧ (z8 ∧ (z8 ∧ (True ∧ (z4 ∧ (True ∧ (z4 ∧ (True ∧ ((z17 ∧ (z17 ∧ (z34 ≤ (1000 : Nat)))) ∧ (True ∧ (pcond ((z25 == z25) && ((z26 == z26) && ((cmpL (unu z9) (unu z9)) == (0 : Int)))) (z4 ∧ (z4 ∧ ((z18 ∧ (z18 ∧ ((List.length z22) ≤ (1000 : Nat)))) ∧ (True ∧ (True ∧ (z4 ∧ (z4 ∧ (z2 ∧ (True ∧ (True ∧ (True ∧ (True ∧ (z8 ∧ (True ∧ (z4 ∧ (z4 ∧ (z2 ∧ (True ∧ (True ∧ (True ∧ (True ∧ (z8 ∧ (True ∧ (True ∧ (True ∧ (pcond (((Prod.fst z23) == (Prod.fst z23)) && ((cmpL z22 z22) == (0 : Int))) (z4 ∧ (True ∧ (z4 ∧ (True ∧ ((z15 ∧ (z15 ∧ (z32 ≤ (1000 : Nat)))) ∧ (True ∧ (True ∧ (z4 ∧ (z21 ∧ (True ∧ (True ∧ (True ∧ (z8 ∧ (True ∧ (z4 ∧ (z21 ∧ (True ∧ (True ∧ (True ∧ (z8 ∧ (True ∧ (True ∧ (True ∧ (pcond (((Prod.snd z1) == (Prod.snd z1)) && ((z27 == z27) && ((cmpL (unu z10) (unu z10)) == (0 : Int)))) (z4 ∧ (True ∧ (z4 ∧ (True ∧ ((z16 ∧ (z16 ∧ (z33 ≤ (1000 : Nat)))) ∧ (True ∧ (True ∧ (True ∧ (True ∧ ((D.v (Value.bool (((Prod.snd z3) == (Prod.snd z3)) && ((z28 == z28) && ((cmpL (unu z11) (unu z11)) == (0 : Int)))))) = z19)))))))))) z14)))))))))))))))))))))))) z6)))))))))))))))))))))))))) (True ∧ (True ∧ (z4 ∧ (z4 ∧ (z2 ∧ (True ∧ (True ∧ (True ∧ (True ∧ (z8 ∧ (True ∧ (z4 ∧ (z4 ∧ (z2 ∧ (True ∧ (True ∧ (True ∧ (True ∧ (z8 ∧ (True ∧ (True ∧ (True ∧ z6)))))))))))))))))))))))))))))))))))))))))))))))))))))))))))))))) (by kernel_rfl) ?_
  simp only [true_and, and_true, and_self, IsInt_lit, IsBool_lit, IsStr_lit, Bool.not_eq_true', Bool.not_eq_false', Bool.not_true, Bool.not_false, Int.reduceLE, Int.reduceLT, Int.reduceNeg, Nat.le_refl, Int.le_refl, Nat.reduceLT, Nat.reduceLeDiff, Nat.reduceEqDiff, D.v.injEq, D.tup.injEq, D.agg.injEq, D.ro.injEq, List.cons.injEq, Value.int.injEq, Value.bool.injEq, pcond_true, pcond_false, NamelessL, Nameless, Nat.reduceMul, Nat.reduceAdd, Nat.zero_add, Int.toNat_natCast, unu_u32s, cmpL_self, beq_self_eq_true, Bool.and_self]
  obtain ⟨dx, dy⟩ := hpre
  refine ⟨⟨u32s_nameless _, u32s_nameless _⟩, pcond_intro (fun _ => trivial) (fun h => ?_)⟩
  simp only [Bool.or_eq_false_iff, decide_eq_false_iff_not] at h
  have kx : LenOk xs := ⟨by omega, dx⟩
  have ky : LenOk ys := ⟨by omega, dy⟩
  have l1 := dvS_len (ok := validL xn xs && validL yn ys) (xn := xn) (yn := yn) dx dy kx.1 ky.1
  have lx := dg_nv_len dx
  have ly := dg_nv_len dy
  have l2 := gcS_len (ok := validL xn xs && validL yn ys) (gcd_len (n := 1000) (x := nv xs) (y := nv ys) (by omega) (by omega))
  have l3 := gcS_len (ok := validL xn xs && !xn) (Nat.le_trans (dg_len_mono (sq_le (nv xs))) (show (dg (nv xs)).length ≤ 1000 by omega))
  exact ⟨⟨kx, ky⟩, ⟨kx, ky⟩, l1.1, l1.2, ⟨kx, ky⟩, ⟨kx, ky⟩, l2, kx, kx, l3⟩
noncomputable def ent_lawDivision : Ent := fun ds => match ds with
  | [.agg [.v (.bool xn), .ro n_xs ys_xs], .agg [.v (.bool yn), .ro n_ys ys_ys]] => some (.v (.bool true), (ys_ys = u32s (unu ys_ys) ∧ n_ys = (unu ys_ys).length) ∧ (ys_xs = u32s (unu ys_xs) ∧ n_xs = (unu ys_xs).length) ∧ Dig (unu ys_xs) ∧ Dig (unu ys_ys))
  | _ => none
theorem ent_lawDivision_ok : EntOk Try.prog 3 ent_lawDivision := by
  intro ds d c h hc; unfold ent_lawDivision at h; split at h
  · rename_i xn n_xs ys_xs yn n_ys ys_ys; obtain ⟨rfl, rfl⟩ := pair_inj h
    obtain ⟨⟨h1, h2⟩, hc⟩ := hc; subst h2; generalize (unu ys_ys) = ys at *; subst h1
    obtain ⟨⟨h1, h2⟩, hc⟩ := hc; subst h2; generalize (unu ys_xs) = xs at *; subst h1
    exact lawDivision_pure _ xs _ ys hc
  · cases h
end Go.Proofs.Ythnhfkpihbjddaa
end
section
namespace Go.Proofs.Ythnhfkpihbjddaa
open Go.VD
set_option linter.unusedVariables false
set_option linter.unusedSimpArgs false
set_option maxRecDepth 100000
theorem u32_chunks : ∀ {chunks : List (List D)}, (∀ c ∈ chunks, TC T 41 c) → ∃ xs : List Nat, chunks.flatten = u32s xs ∧ xs.length = chunks.length ∧ Dig xs
  | [], _ => ⟨[], rfl, rfl, Dig.nil⟩
  | c :: cs, h => by
    obtain ⟨xs, e1, e2, e3⟩ := u32_chunks (chunks := cs) fun c hc => h c (by simp [hc])
    obtain ⟨n, rfl, hw⟩ := (h c (by simp)).int_inv T_41
    have hn : 0 ≤ n ∧ n < 4294967296 := by simp [Lit.wf, IntKind.min, IntKind.max, IntKind.bits, IntKind.signed] at hw; omega
    obtain ⟨x, rfl⟩ := Int.eq_ofNat_of_zero_le hn.1
    exact ⟨x :: xs, by simp [e1, u32s], by simp [e2], Dig.cons.2 ⟨by omega, e3⟩⟩
theorem big_inv {cs : List D} (h : TFields T [(0, 4), (1, 22)] cs) : ∃ (b : Bool) (xs : List Nat), cs = [.v (.bool b), .ro xs.length (u32s xs)] ∧ Dig xs := by
  obtain ⟨p, r, rfl, h1, p2, r2, rfl, h2, rfl⟩ := h
  obtain ⟨b, rfl⟩ := h1.bool_inv T_4
  obtain ⟨chunks, rfl, hl, hc⟩ := h2.slice_inv T_22
  obtain ⟨xs, e1, e2, e3⟩ := u32_chunks hc
  exact ⟨b, xs, by rw [e1, ← e2]; rfl, e3⟩
end Go.Proofs.Ythnhfkpihbjddaa
end
section
namespace Go.VD
open Go.ChangeShapes Go.WideShapes Go.ChangeAt Go.RowKit
set_option linter.unusedVariables false
set_option linter.unusedSimpArgs false
mutual
def flatD {H : Type} : DataW H → Option (List Value)
  | .lit (.int k n) => some [.int k n]
  | .lit (.bool b) => some [.bool b]
  | .agg ps => flatDs ps
  | _ => none
def flatDs {H : Type} : List (DataW H) → Option (List Value)
  | [] => some []
  | d :: r => match flatD d, flatDs r with
    | some a, some b => some (a ++ b)
    | _, _ => none
end
section
variable {H : Type} {enc : TypeId × Value → H} {P : Program} {T : Tbl}
theorem flat_rows {w : World} {base : Nat} {spare : Nat → Bool} {held : Bool} {m sz : Nat} {e : TypeId} (ih : ∀ (cs : List Value) (x : DataW H × List MemPlace) (vals : List Value), DataW.trod enc P w base spare held m e cs = some x → flatD x.1 = some vals → cs = vals) :
    ∀ (xs : List (DataW H × List MemPlace)) (cs vals : List Value), cs.length = xs.length * sz → (∀ (i : Nat) (x : DataW H × List MemPlace), xs[i]? = some x → DataW.trod enc P w base spare held m e ((cs.drop (i * sz)).take sz) = some x) → flatDs (xs.map (·.1)) = some vals → cs = vals
  | [], cs, vals, hl, _, hf => by
    simp only [List.map_nil, flatDs, Option.some.injEq] at hf
    subst hf
    exact List.eq_nil_of_length_eq_zero (by simpa using hl)
  | x :: xs, cs, vals, hl, h, hf => by
    simp only [List.map_cons, flatDs] at hf
    split at hf
    · rename_i a b ha hb
      injection hf with hf; subst hf
      have h0 := h 0 x (by simp)
      simp only [Nat.zero_mul, List.drop_zero] at h0
      have e1 := ih _ _ _ h0 ha
      have hl' : (cs.drop sz).length = xs.length * sz := by
        rw [List.length_drop, hl, List.length_cons, Nat.add_mul, Nat.one_mul]; omega
      have e2 := flat_rows ih xs (cs.drop sz) b hl' (fun i y hy => by
        have := h (i + 1) y (by simpa using hy)
        rw [List.drop_drop]
        rwa [Nat.add_mul, Nat.one_mul, Nat.add_comm] at this) hb
      rw [← e1, ← e2, List.take_append_drop]
    · cases hf
theorem flat_fields {w : World} {base : Nat} {spare : Nat → Bool} {held : Bool} {m sz : Nat} (hT : TblOk P T) {cs : List Value} (hcs : cs.length = sz) :
    ∀ (fs : List (Nat × TypeId)) (off : Nat) (xs : List (DataW H × List MemPlace)) (vals : List Value), (∀ f ∈ fs, ∀ (cs : List Value) (x : DataW H × List MemPlace) (vals : List Value), DataW.trod enc P w base spare held m f.2 cs = some x → flatD x.1 = some vals → cs = vals) →
      contig T fs off sz = true → xs.length = fs.length → (∀ (i : Nat) (f : Nat × TypeId), fs[i]? = some f → DataW.trod enc P w base spare held m f.2 ((cs.drop f.1).take (P.cellsOf f.2)) = xs[i]?) → flatDs (xs.map (·.1)) = some vals → cs.drop off = vals
  | [], off, xs, vals, _, hc, hl, _, hf => by
    have hx : xs = [] := List.eq_nil_of_length_eq_zero (by simpa using hl)
    subst hx
    simp only [List.map_nil, flatDs, Option.some.injEq] at hf
    subst hf
    simp only [contig, beq_iff_eq] at hc
    rw [List.drop_eq_nil_of_le (by rw [hcs, hc]; exact Nat.le_refl _)]
  | f :: fs, off, [], vals, _, hc, hl, _, hf => by simp at hl
  | (o, ft) :: fs, off, x :: xs, vals, ih, hc, hl, h, hf => by
    simp only [List.map_cons, flatDs] at hf
    simp only [contig] at hc
    split at hc
    · rename_i ti hti
      simp only [Bool.and_eq_true, beq_iff_eq] at hc
      obtain ⟨rfl, hc⟩ := hc
      split at hf
      · rename_i a b ha hb
        injection hf with hf; subst hf
        have h0 := h 0 (o, ft) (by simp)
        rw [List.getElem?_cons_zero] at h0
        have e1 := ih (o, ft) (by simp) _ _ _ h0 ha
        have e2 := flat_fields hT hcs fs (o + ti.size) xs b (fun f hf => ih f (by simp [hf])) hc (by simpa using hl) (fun i f hi => by simpa using h (i + 1) f (by simpa using hi)) hb
        rw [(hT.ok ft _ hti).cellsOf] at e1
        rw [← e1, ← e2, ← List.drop_drop, List.take_append_drop]
      · cases hf
    · cases hc
theorem trod_flat (hT : TblOk P T) {w : World} {base : Nat} {spare : Nat → Bool} {held : Bool} : ∀ (n : Nat) (fuel : Nat) (t : TypeId), canRead T n t = true → ∀ (cs : List Value) (x : DataW H × List MemPlace) (vals : List Value),
    DataW.trod enc P w base spare held fuel t cs = some x → flatD x.1 = some vals → cs = vals
  | 0, fuel, t, h => by simp [canRead] at h
  | n + 1, fuel, t, hcan => by
    intro cs x vals h hf
    simp only [canRead] at hcan
    split at hcan
    · rename_i sz b z ht
      have hu := (hT.ok t _ ht).bool rfl
      cases fuel with
      | zero => simp [DataW.trod] at h
      | succ m =>
        unfold DataW.trod at h; rw [hu] at h
        split at h <;> simp_all
        rename_i y _
        subst h
        simp only [flatD, Option.some.injEq] at hf
        exact hf
    · rename_i k sz b z ht
      have hu := (hT.ok t _ ht).int rfl
      cases fuel with
      | zero => simp [DataW.trod] at h
      | succ m =>
        unfold DataW.trod at h; rw [hu] at h
        split at h <;> simp_all
        obtain ⟨⟨rfl, _⟩, rfl⟩ := h
        simp only [flatD, Option.some.injEq] at hf
        exact hf
    · rename_i sz b z ht
      have hu := (hT.ok t _ ht).str rfl
      cases fuel with
      | zero => simp [DataW.trod] at h
      | succ m =>
        unfold DataW.trod at h; rw [hu] at h
        split at h <;> simp_all
        obtain ⟨_, rfl⟩ := h
        simp [flatD] at hf
    · rename_i e sz b z ht
      have hu := (hT.ok t _ ht).slice rfl
      rcases DataW.trod_slice hu h with ⟨_, hx⟩ | ⟨a, len, cap, elems, rest, m, _, _, hx, _⟩
      · rw [hx] at hf; simp [flatD] at hf
      · rw [hx] at hf; simp [flatD] at hf
    · rename_i fs sz b z ht
      simp only [Bool.and_eq_true] at hcan
      obtain ⟨F, hF, hm⟩ := (hT.ok t _ ht).struct rfl
      obtain ⟨xs, m, _, hx, hcs, hxs, hread⟩ := DataW.trod_struct hF h
      rw [(hT.ok t _ ht).cellsOf] at hcs
      rw [hx] at hf
      simp only [flatD] at hf
      have hall := List.all_eq_true.1 hcan.2
      have hfl : fs.length = F.size := by rw [← hm]; simp
      have := flat_fields hT hcs fs 0 xs vals (fun f hf => trod_flat hT n m f.2 (hall f hf)) hcan.1 (by omega) (fun i f hi => by
        have hlt := (List.getElem?_eq_some_iff.1 hi).1
        have hFi : F[i]? = some (F[i]'(by omega)) := Array.getElem?_eq_getElem (by omega)
        have e : (F.toList.map fun f => (f.offset, f.type))[i]? = fs[i]? := by rw [hm]
        rw [List.getElem?_map, Array.getElem?_toList, hFi, hi] at e
        simp only [Option.map_some, Option.some.injEq] at e
        subst e
        exact hread i _ hFi) hf
      simpa using this
    · rename_i k e sz b z ht
      simp only [Bool.and_eq_true] at hcan
      have hu := (hT.ok t _ ht).arr rfl
      obtain ⟨xs, m, _, hx, hcs, hxs, hread⟩ := DataW.trod_array hu h
      rw [hx] at hf
      simp only [flatD] at hf
      have h2 := hcan.2
      split at h2
      · rename_i te hte
        rw [(hT.ok e _ hte).cellsOf] at hread
        rw [(hT.ok t _ ht).cellsOf] at hcs
        simp only [beq_iff_eq] at h2
        exact flat_rows (sz := te.size) (fun cs x vals => trod_flat hT n m e hcan.1 cs x vals) xs cs vals (by rw [hcs, h2, hxs]) (fun i y hy => by
          have := hread i (by have := (List.getElem?_eq_some_iff.1 hy).1; omega)
          rw [this, hy]) hf
      · cases h2
    · cases hcan
end
def globB (P : Program) (T : Tbl) (laid : List (String × DataW Unit)) : Bool := glob.all fun p => laid.any fun q => ((match P.globalNamed q.1 with
    | some g => Nat.beq g p.1
    | none => false) && (match (P.globals[p.1]?).map (·.type) with
    | some t => canRead T 20 t
    | none => false)) && (match flatD q.2 with
    | some vs => sameScalars p.2 vs
    | none => false)
theorem laidVars_mem {P : Program} {w : World} : ∀ (laid : List (String × DataW Unit)) (ps : List MemPlace), DataW.LaidVars P w laid ps → ∀ q ∈ laid, ∃ g t cs fuel p, P.globalNamed q.1 = some g ∧ (P.globals[g]?).map (·.type) = some t ∧ w.var? P q.1 = some cs ∧ DataW.trod (fun _ => ()) P w 0 (fun _ => true) false fuel t cs.toList = some (q.2, p)
  | [], _, _, q, hq => by simp at hq
  | (n, d) :: r, ps, h, q, hq => by
    obtain ⟨g, t, cs, fuel, p, q', h1, h2, h3, h4, h5, _⟩ := h
    rcases List.mem_cons.1 hq with rfl | hq
    · exact ⟨g, t, cs, fuel, p, h1, h2, h3, h4⟩
    · exact laidVars_mem r q' h5 q hq
theorem lookup_mem : ∀ {l : List (Nat × List Value)} {g : Nat} {xs : List Value}, l.lookup g = some xs → (g, xs) ∈ l
  | [], g, xs, h => by simp at h
  | (k, ys) :: l, g, xs, h => by
    rw [List.lookup_cons] at h
    split at h
    · rename_i hk
      injection h with h
      have : g = k := by simpa using hk
      subst this; subst h; simp
    · exact List.mem_cons_of_mem _ (lookup_mem h)
theorem gok_of_laid {P : Program} {T : Tbl} (hT : TblOk P T) {W : World} {laid : List (String × DataW Unit)} (hB : globB P T laid = true) (h : laidMet P laid W) : GOK (fun k => k < W.heap.size) W := by
  intro g xs hg
  obtain ⟨ps, hv, _⟩ := h
  have hm := lookup_mem hg
  unfold globB at hB
  have h1 := List.all_eq_true.1 hB _ hm
  obtain ⟨q, hq, h2⟩ := List.any_eq_true.1 h1
  simp only [Bool.and_eq_true] at h2
  obtain ⟨⟨h3, h4⟩, h5⟩ := h2
  obtain ⟨g', t, cs, fuel, p, e1, e2, e3, e4⟩ := laidVars_mem laid ps hv q hq
  rw [e1] at h3
  have hgg : g' = g := Nat.eq_of_beq_eq_true h3
  subst hgg
  rw [e2] at h4
  split at h5
  · rename_i vs hvs
    obtain ⟨rfl, hone⟩ := sameScalars_eq h5
    have hcs := trod_flat hT 20 fuel t h4 _ _ _ e4 hvs
    refine ⟨?_, RdAt.mk _ _ _ fun i d hi => ?_⟩
    · have := e3
      simp only [World.var?, e1, Option.bind_some] at this
      split at this
      · rename_i hh
        exact (Array.getElem?_eq_some_iff.1 hh).1
      · cases this
    · unfold gcells at hi
      rw [List.getElem?_map] at hi
      obtain ⟨u, hu, rfl⟩ := Option.map_eq_some_iff.1 hi
      refine ⟨u, ?_, hone u (List.mem_of_getElem? hu), by simp [Rd]⟩
      have hc := World.var?_cell e1 e3 i
      rw [← Array.getElem?_toList, hcs, hu] at hc
      have ea : (⟨g', 0, none⟩ : Addr).add (0 + i) = ⟨g', i, none⟩ := by
        unfold Addr.add
        by_cases h0 : i = 0
        · subst h0; simp
        · simp [h0]
      show W.cell? _ = _
      rw [ea]; exact hc
  · cases h5
theorem gok_nil {S : Nat → Prop} {w : World} (h : glob = []) : GOK S w := fun g xs hg => by rw [h] at hg; simp at hg
theorem targ_arr {T : Tbl} {t e : TypeId} {n a b : Nat} {z : List Value} {d : D} (h : T t = some ⟨.arr n e, a, b, z⟩) (hd : ∃ ti cs, T t = some ti ∧ TC T t cs ∧ d = (if ti.td.isAgg then .agg cs else cs.headD default)) :
    ∃ chunks : List (List D), d = .agg chunks.flatten ∧ chunks.length = n ∧ ∀ c ∈ chunks, TC T e c := by
  obtain ⟨ti, cs, h1, h2, h3⟩ := hd
  rw [h] at h1; injection h1 with h1; subst h1
  obtain ⟨chunks, rfl, hl, hc⟩ := h2.arr_inv h
  exact ⟨chunks, h3, hl, hc⟩
theorem ints_inv {T : Tbl} {e : TypeId} {k : IntKind} {a b : Nat} {z : List Value} (he : T e = some ⟨.int k, a, b, z⟩) : ∀ {chunks : List (List D)}, (∀ c ∈ chunks, TC T e c) → ∃ xs : List Int, chunks.flatten = xs.map (fun x => .v (.int k x)) ∧ xs.length = chunks.length ∧ ∀ x ∈ xs, (Lit.int k x).wf = true
  | [], _ => ⟨[], rfl, rfl, by simp⟩
  | c :: cs, h => by
    obtain ⟨xs, e1, e2, e3⟩ := ints_inv he (chunks := cs) fun c hc => h c (by simp [hc])
    obtain ⟨x, rfl, hw⟩ := (h c (by simp)).int_inv he
    exact ⟨x :: xs, by simp [e1], by simp [e2], by simpa using ⟨hw, e3⟩⟩
end Go.VD
end
