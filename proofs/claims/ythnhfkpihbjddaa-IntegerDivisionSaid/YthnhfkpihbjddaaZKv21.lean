import Derived.Test.YthnhfkpihbjddaaZKv20
import Derived.Test.YthnhfkpihbjddaaZKv16
import Derived.Test.YthnhfkpihbjddaaZKv11
import Derived.Test.YthnhfkpihbjddaaZKv19
section
namespace Go.Proofs.Ythnhfkpihbjddaa
open Go.VD
set_option linter.unusedVariables false
set_option linter.unusedSimpArgs false
set_option maxRecDepth 100000
def d_l (v : Nat) : D := .ro (dg v).length (u32s (dg v))
def gP (xs ys : List Nat) : Nat := max (nv xs) (nv ys)
def gQ (xs ys : List Nat) : Nat := min (nv xs) (nv ys)
def lp_gcdLoop (xs ys : List Nat) : LoopO := loopRule (α := Nat × Nat) (β := Nat × Nat) [] (fun s => Nat.gcd s.1 s.2 = Nat.gcd (gP xs ys) (gQ xs ys) ∧ s.2 ≤ s.1 ∧ s.1 ≤ gP xs ys) (fun s => [(5, d_l s.1), (6, d_l s.2)]) (fun s => []) ((gP xs ys, gQ xs ys)) (fun s => (Nat.gcd s.1 s.2 = Nat.gcd (gP xs ys) (gQ xs ys) ∧ s.2 ≤ s.1 ∧ s.1 ≤ gP xs ys) ∧ (dg s.2).length ≤ 2) (fun s => (.exit 0, [(5, d_l s.1), (6, d_l s.2)], []))
theorem gcdLoop_rule (xs ys : List Nat) (hpre : (dg (gP xs ys)).length ≤ 100000 ∧ gQ xs ys ≤ gP xs ys) : LRuleP Try.prog Try.f62.ntmps (loopAt ((Try.f62.body).getD .skip) 4) (lp_gcdLoop xs ys) := by
  refine lrule_of (α := Nat × Nat) (β := Nat × Nat) (call := (addQ 103 entq_ileadingSteps (addPure 104 ent_icombine (addPure 51 ent_idiv noCalls)))) (lp := fun _ => none) (N := 10) T_ok mixed (addQ_ok entq_ileadingSteps_ok (addPure_ok ent_icombine_ok (addPure_ok ent_idiv_ok noCalls_ok))) (fun s => s.2) (by kernel_rfl) (LpAllP.none _) ?_
  intro x hJ
  refine of_eq (B := letI z9 := (dg (Prod.fst x)); letI z0 := (unu (u32s z9)); letI z6 := (dg (Prod.snd x)); letI z1 := (unu (u32s z6)); letI z12 := List.length z6; letI z2 := (((u32s z6) = (u32s z1)) ∧ (z12 = (List.length z1))); letI z3 := (((u32s z9) = (u32s z0)) ∧ ((List.length z9) = (List.length z0))); letI z4 := (((nv z0) : Nat) : Int); letI z5 := (((nv z1) : Nat) : Int); letI z7 := ([] : List (Option Blk)); letI z8 := (Nat.gcd (gP xs ys) (gQ xs ys)); letI z10 := (Exit.exit (0 : Nat)); letI z11 := Prod Nat Nat; letI z13 := (Prod.snd (lsX z0 z1)); letI z14 := (List (Option Nat)); letI z15 := (dg ((nv z0) % (nv z1))); letI z16 := ((1 : Nat) < (4 : Nat)); letI z17 := (D.ro z12 (u32s z6)); (True ∧ (True ∧ (True ∧ (pcond (Decidable.decide ((2 : Int) < ((z12 : Nat) : Int))) (True ∧ (True ∧ ((z2 ∧ (z3 ∧ (lHyp z0 z1))) ∧ (∀ (a : Int), ((a = (Prod.fst (lsX z0 z1))) → (∀ (b : Int), ((b = (Prod.fst z13)) → (∀ (c : Int), ((c = (Prod.fst (Prod.snd z13))) → (∀ (d : Int), ((d = (Prod.snd (Prod.snd z13))) → (True ∧ ((((4 : Nat) = (4 : Nat)) ∧ ((4 : Nat) ≤ (4 : Nat))) ∧ (True ∧ ((z16 ∧ (IsInt IntKind.i64 (D.v (Value.int IntKind.i64 b)))) ∧ (True ∧ (pcond (b != (0 : Int)) (True ∧ (True ∧ (True ∧ ((((0 : Nat) < (4 : Nat)) ∧ (IsInt IntKind.i64 (D.v (Value.int IntKind.i64 a)))) ∧ (True ∧ ((z16 ∧ (IsInt IntKind.i64 (D.v (Value.int IntKind.i64 b)))) ∧ ((z2 ∧ (z3 ∧ ((cbHyp z0 z1 a b) ∧ (((0 : Int) ≤ ((a * z4) + (b * z5))) ∧ (((a * z4) + (b * z5)) ≤ z4))))) ∧ (True ∧ (True ∧ (True ∧ ((((2 : Nat) < (4 : Nat)) ∧ (IsInt IntKind.i64 (D.v (Value.int IntKind.i64 c)))) ∧ (True ∧ ((((3 : Nat) < (4 : Nat)) ∧ (IsInt IntKind.i64 (D.v (Value.int IntKind.i64 d)))) ∧ ((z2 ∧ (z3 ∧ ((cbHyp z0 z1 c d) ∧ (((0 : Int) ≤ ((c * z4) + (d * z5))) ∧ (((c * z4) + (d * z5)) ≤ z4))))) ∧ (True ∧ (True ∧ ((Bool.true = Bool.true) ∧ (∃ (y : z11), (∃ (kp : z14), (((Prod.snd y) < (Prod.snd x)) ∧ ((((Nat.gcd (Prod.fst y) (Prod.snd y)) = z8) ∧ (((Prod.snd y) ≤ (Prod.fst y)) ∧ ((Prod.fst y) ≤ (gP xs ys)))) ∧ (viewAll kp [(Prod.mk (5 : Nat) (D.ro (List.length (dg (Int.toNat ((a * z4) + (b * z5))))) (u32s (dg (Int.toNat ((a * z4) + (b * z5))))))), (Prod.mk (6 : Nat) (D.ro (List.length (dg (Int.toNat ((c * z4) + (d * z5))))) (u32s (dg (Int.toNat ((c * z4) + (d * z5)))))))] [(Option.some (Blk.mk (112 : Nat) [(D.v (Value.int IntKind.i64 a)), (D.v (Value.int IntKind.i64 b)), (D.v (Value.int IntKind.i64 c)), (D.v (Value.int IntKind.i64 d))] Bool.true))] [(Prod.mk (5 : Nat) (d_l (Prod.fst y))), (Prod.mk (6 : Nat) (d_l (Prod.snd y)))] z7)))))))))))))))))))))) (True ∧ (True ∧ (((z3 ∧ z2) ∧ (dHyp z0 z1)) ∧ (True ∧ (True ∧ (True ∧ (True ∧ (True ∧ (True ∧ (True ∧ (True ∧ (True ∧ (∃ (y : z11), (∃ (kp : z14), (((Prod.snd y) < (Prod.snd x)) ∧ ((((Nat.gcd (Prod.fst y) (Prod.snd y)) = z8) ∧ (((Prod.snd y) ≤ (Prod.fst y)) ∧ ((Prod.fst y) ≤ (gP xs ys)))) ∧ (viewAll kp [(Prod.mk (5 : Nat) z17), (Prod.mk (6 : Nat) (D.ro (List.length z15) (u32s z15)))] [(Option.some (Blk.mk (112 : Nat) [(D.v (Value.int IntKind.i64 a)), (D.v (Value.int IntKind.i64 b)), (D.v (Value.int IntKind.i64 c)), (D.v (Value.int IntKind.i64 d))] Bool.true))] [(Prod.mk (5 : Nat) (d_l (Prod.fst y))), (Prod.mk (6 : Nat) (d_l (Prod.snd y)))] z7)))))))))))))))))))))))))))))))))) (∃ (r : z11), (∃ (kp : z14), (((((Nat.gcd (Prod.fst r) (Prod.snd r)) = z8) ∧ (((Prod.snd r) ≤ (Prod.fst r)) ∧ ((Prod.fst r) ≤ (gP xs ys)))) ∧ ((List.length (dg (Prod.snd r))) ≤ (2 : Nat))) ∧ ((z10 = z10) ∧ (viewAll kp [(Prod.mk (5 : Nat) (D.ro (List.length z9) (u32s z9))), (Prod.mk (6 : Nat) z17)] z7 (Prod.fst (Prod.snd ((fun (s : z11) => (Prod.mk z10 (Prod.mk [(Prod.mk (5 : Nat) (d_l (Prod.fst s))), (Prod.mk (6 : Nat) (d_l (Prod.snd s)))] z7))) r))) (Prod.snd (Prod.snd ((fun (s : z11) => (Prod.mk z10 (Prod.mk [(Prod.mk (5 : Nat) (d_l (Prod.fst s))), (Prod.mk (6 : Nat) (d_l (Prod.snd s)))] z7))) r))))))))))))) (by kernel_rfl) ?_
  obtain ⟨a, b⟩ := x
  obtain ⟨hg, hle, hp⟩ := hJ
  simp only at hg hle hp
  obtain ⟨hlen, hqp⟩ := hpre
  generalize gP xs ys = p at *
  generalize gQ xs ys = q at *
  simp only [true_and, and_true, and_self, IsInt_lit, IsBool_lit, IsStr_lit, Bool.not_eq_true', Bool.not_eq_false', Bool.not_true, Bool.not_false, Int.reduceLE, Int.reduceLT, Int.reduceNeg, Nat.le_refl, Int.le_refl, Nat.reduceLT, Nat.reduceLeDiff, Nat.reduceEqDiff, D.v.injEq, D.tup.injEq, D.agg.injEq, D.ro.injEq, List.cons.injEq, Value.int.injEq, Value.bool.injEq, pcond_true, pcond_false, NamelessL, Nameless, Nat.reduceMul, Nat.reduceAdd, Nat.zero_add, Int.toNat_natCast, unu_u32s] at *
  refine pcond_intro (fun h => ?_) (fun h => ?_)
  · simp only [decide_eq_true_eq] at h
    have h2 : 2 < (dg b).length := by omega
    have m1 := dg_len_mono hp
    have m2 := dg_len_mono hle
    have hb0 : 0 < b := by
      rcases Nat.eq_zero_or_pos b with h0 | h0
      · subst h0; rw [dg_zero] at h2; simp at h2
      · exact h0
    have hG : lHyp (dg a) (dg b) := ⟨⟨⟨by omega, by omega⟩, dg_dig _, dg_dig _⟩, by omega, by rw [nv_dg, nv_dg]; exact hle⟩
    refine ⟨hG, fun A eA B eB C eC D' eD => ?_⟩
    obtain ⟨x', y', hL⟩ := lsF_spec (leh_base hG).2.2 _ _ _ _ _ _ _ rfl (leh_start (leh_base hG).2.2)
    change Leh _ _ _ _ _ _ _ (lsX (dg a) (dg b)).1 (lsX (dg a) (dg b)).2.1 (lsX (dg a) (dg b)).2.2.1 (lsX (dg a) (dg b)).2.2.2 at hL
    rw [← eA, ← eB, ← eC, ← eD, nv_dg, nv_dg] at hL
    clear eA eB eC eD
    obtain ⟨_, _, sg, ba, bc, V0, VU, Uu, g, f⟩ := hL
    rw [nv_dg, nv_dg]
    refine pcond_intro (fun h3 => ?_) (fun h3 => ?_)
    · have h3 : B ≠ 0 := by simpa using h3
      have hV : C * (a : Int) + D' * (b : Int) < (b : Int) := by
        rcases f with ⟨f, _⟩ | f
        · exact absurd f h3
        · exact f
      have hl : (dg a).length ≤ 1000000 ∧ (dg b).length ≤ (dg a).length := by omega
      refine ⟨⟨⟨⟨hl, dg_dig _, dg_dig _⟩, ba, by rcases sg with ⟨s1, s2, _⟩ | ⟨s1, s2, _⟩ <;> omega⟩, by omega, by omega⟩, ⟨⟨⟨hl, dg_dig _, dg_dig _⟩, bc, by rcases sg with ⟨s1, s2, _⟩ | ⟨s1, s2, _⟩ <;> omega⟩, by omega, by omega⟩, ?_⟩
      generalize A * (a : Int) + B * (b : Int) = U at *
      generalize C * (a : Int) + D' * (b : Int) = V at *
      obtain ⟨u, rfl⟩ := Int.eq_ofNat_of_zero_le (show 0 ≤ U by omega)
      obtain ⟨v, rfl⟩ := Int.eq_ofNat_of_zero_le (show 0 ≤ V by omega)
      have g' : Nat.gcd u v = Nat.gcd a b := by simpa using g
      refine ⟨(u, v), [], by simp only; omega, ⟨by rw [← hg, ← g'], by simp only; omega, by simp only; omega⟩, ?_⟩
      simp only [Int.toNat_natCast, Int.ofNat_eq_natCast]
      refine of_eq (B := letI z0 := (D.ro (List.length (dg u)) (u32s (dg u))); letI z1 := (D.ro (List.length (dg v)) (u32s (dg v))); letI z2 := ([] : List (Option Blk)); ((Bool.true = Bool.true) ∧ ((z2 = z2) ∧ ((True ∧ (z0 = z0)) ∧ ((True ∧ (z1 = z1)) ∧ True))))) (by kernel_rfl) ?_
      simp
    · have hm := Nat.mod_lt a hb0
      refine ⟨⟨⟨⟨by omega, by omega⟩, by rw [nv_dg], by rw [nv_dg]⟩, by rw [nv_dg]; exact hb0⟩, (b, a % b), [], hm, ⟨?_, by simp only; omega, by simp only; omega⟩, ?_⟩
      · simp only
        rw [← hg, Nat.gcd_comm a b, Nat.gcd_rec b a, Nat.gcd_comm]
      · refine of_eq (B := letI z0 := (D.ro (List.length (dg (a % b))) (u32s (dg (a % b)))); letI z1 := (D.ro (List.length (dg b)) (u32s (dg b))); letI z2 := ([] : List (Option Blk)); ((Bool.true = Bool.true) ∧ ((z2 = z2) ∧ ((True ∧ (z1 = z1)) ∧ ((True ∧ (z0 = z0)) ∧ True))))) (by kernel_rfl) ?_
        simp
  · simp only [decide_eq_false_iff_not] at h
    refine ⟨(a, b), [], ⟨⟨hg, hle, hp⟩, by simp only; omega⟩, ?_⟩
    refine of_eq (B := letI z0 := (D.ro (List.length (dg a)) (u32s (dg a))); letI z1 := (D.ro (List.length (dg b)) (u32s (dg b))); letI z2 := ([] : List (Option Blk)); ((Bool.true = Bool.true) ∧ ((z2 = z2) ∧ ((True ∧ (z0 = z0)) ∧ ((True ∧ (z1 = z1)) ∧ True))))) (by kernel_rfl) ?_
    simp
theorem word_dg {v : Nat} (h : (dg v).length ≤ 2) : wordV (dg v) = (v : Int) := by
  rw [wordV_eq]
  have h1 := nv_drop_succ (dg v) 0
  have h2 := nv_drop_succ (dg v) 1
  rw [nv_drop_ge (show (dg v).length ≤ 1 + 1 by omega)] at h2
  rw [List.drop_zero, nv_dg, Nat.zero_add] at h1
  omega
def gcHyp (xs ys : List Nat) : Prop := (xs.length ≤ 100000 ∧ ys.length ≤ 100000) ∧ xs = dg (nv xs) ∧ ys = dg (nv ys)
theorem gc_facts {xs ys : List Nat} (h : gcHyp xs ys) : ((dg (gP xs ys)).length ≤ 100000 ∧ gQ xs ys ≤ gP xs ys) ∧ Nat.gcd (gP xs ys) (gQ xs ys) = Nat.gcd (nv xs) (nv ys) := by
  obtain ⟨⟨hx, hy⟩, gx, gy⟩ := h
  rcases Nat.le_total (nv xs) (nv ys) with hl | hl
  · rw [show gP xs ys = nv ys by unfold gP; omega, show gQ xs ys = nv xs by unfold gQ; omega, ← gy]
    exact ⟨⟨hy, hl⟩, Nat.gcd_comm _ _⟩
  · rw [show gP xs ys = nv xs by unfold gP; omega, show gQ xs ys = nv ys by unfold gQ; omega, ← gx]
    exact ⟨⟨hx, hl⟩, rfl⟩
theorem igcd_pure (xs ys : List Nat) (hpre : gcHyp xs ys) : PureJ Try.prog 62 [.ro xs.length (u32s xs), .ro ys.length (u32s ys)] (.ro (dg (Nat.gcd (nv xs) (nv ys))).length (u32s (dg (Nat.gcd (nv xs) (nv ys))))) := by
  refine pureJ_of_vcpN (call := (addPure 65 ent_icompare (addPure 87 ent_iclone (addPure 51 ent_idiv (addPure 106 ent_iword (addPure 105 ent_igcdw (addPure 66 ent_idigits noCalls))))))) (lp := fun k => bif Nat.beq k 4 then some (lp_gcdLoop xs ys) else none) (N := 10) T_ok mixed (addPure_ok ent_icompare_ok (addPure_ok ent_iclone_ok (addPure_ok ent_idiv_ok (addPure_ok ent_iword_ok (addPure_ok ent_igcdw_ok (addPure_ok ent_idigits_ok noCalls_ok)))))) Try.func62 rfl (by decide) (by kernel_rfl) (by kernel_rfl) (of_eq (B := LRuleP Try.prog Try.f62.ntmps (loopAt ((Try.f62.body).getD .skip) 4) (lp_gcdLoop xs ys) ∧ True) (by kernel_rfl) ⟨gcdLoop_rule xs ys (gc_facts hpre).1, trivial⟩) (by first | trivial | (simp only [NamelessL, Nameless, and_self, and_true, true_and]; done) | (simp [NamelessL, Nameless, u32s_nameless, namelessL_ints]; done)) (by first | trivial | (simp only [NamelessL, Nameless, and_self, and_true, true_and]; done) | (simp [NamelessL, Nameless, u32s_nameless, namelessL_ints]; done)) ?_
  refine of_eq (B := letI z10 := (dg (Nat.gcd (nv xs) (nv ys))); letI z0 := (D.ro (List.length z10) (u32s z10)); letI z1 := (Nat.gcd (gP xs ys) (gQ xs ys)); letI z2 := (18446744073709551616 : Int); letI z3 := ((z1 = z1) ∧ (((gQ xs ys) ≤ (gP xs ys)) ∧ ((gP xs ys) ≤ (gP xs ys)))); letI z4 := ([] : List (Option Blk)); letI z5 := (D.ro (List.length (dg (gP xs ys))) (u32s (dg (gP xs ys)))); letI z6 := (D.ro (List.length (dg (gQ xs ys))) (u32s (dg (gQ xs ys)))); letI z7 := (unu (u32s xs)); letI z8 := (D.ro (List.length ys) (u32s ys)); letI z9 := (D.ro (List.length xs) (u32s xs)); letI z11 := (unu (u32s ys)); letI z12 := Bool.true = Bool.true; (True ∧ (True ∧ (True ∧ (True ∧ (True ∧ (True ∧ (True ∧ (((((u32s ys) = (u32s z11)) ∧ ((List.length ys) = (List.length z11))) ∧ ((((u32s xs) = (u32s z7)) ∧ ((List.length xs) = (List.length z7))) ∧ ((List.length z7) ≤ (1000000000000 : Nat)))) ∧ (True ∧ (pcond (Decidable.decide ((cmpL z7 z11) < (0 : Int))) (True ∧ (True ∧ (True ∧ (True ∧ (z3 ∧ ((z12 ∧ ((z4 = z4) ∧ ((True ∧ (z8 = z5)) ∧ ((True ∧ (z9 = z6)) ∧ True)))) ∧ (∀ (r : (Prod Nat Nat)), (((((Nat.gcd (Prod.fst r) (Prod.snd r)) = z1) ∧ (((Prod.snd r) ≤ (Prod.fst r)) ∧ ((Prod.fst r) ≤ (gP xs ys)))) ∧ ((List.length (dg (Prod.snd r))) ≤ (2 : Nat))) → (True ∧ (True ∧ (True ∧ (pcond ((((List.length (dg (Prod.snd r))) : Nat) : Int) == (0 : Int)) (True ∧ (((((u32s (dg (Prod.fst r))) = (u32s (unu (u32s (dg (Prod.fst r)))))) ∧ ((List.length (dg (Prod.fst r))) = (List.length (unu (u32s (dg (Prod.fst r))))))) ∧ ((List.length (unu (u32s (dg (Prod.fst r))))) ≤ (1000000 : Nat))) ∧ (True ∧ (True ∧ (True ∧ ((D.ro (List.length (unu (u32s (dg (Prod.fst r))))) (u32s (unu (u32s (dg (Prod.fst r)))))) = z0)))))) (True ∧ (True ∧ ((((((u32s (dg (Prod.fst r))) = (u32s (unu (u32s (dg (Prod.fst r)))))) ∧ ((List.length (dg (Prod.fst r))) = (List.length (unu (u32s (dg (Prod.fst r))))))) ∧ (((u32s (dg (Prod.snd r))) = (u32s (unu (u32s (dg (Prod.snd r)))))) ∧ ((List.length (dg (Prod.snd r))) = (List.length (unu (u32s (dg (Prod.snd r)))))))) ∧ (dHyp (unu (u32s (dg (Prod.fst r)))) (unu (u32s (dg (Prod.snd r)))))) ∧ (True ∧ (True ∧ (True ∧ (True ∧ (True ∧ (True ∧ (((((u32s (dg (Prod.snd r))) = (u32s (unu (u32s (dg (Prod.snd r)))))) ∧ ((List.length (dg (Prod.snd r))) = (List.length (unu (u32s (dg (Prod.snd r))))))) ∧ (Dig (unu (u32s (dg (Prod.snd r)))))) ∧ (True ∧ (((((u32s (dg ((nv (unu (u32s (dg (Prod.fst r))))) % (nv (unu (u32s (dg (Prod.snd r)))))))) = (u32s (unu (u32s (dg ((nv (unu (u32s (dg (Prod.fst r))))) % (nv (unu (u32s (dg (Prod.snd r))))))))))) ∧ ((List.length (dg ((nv (unu (u32s (dg (Prod.fst r))))) % (nv (unu (u32s (dg (Prod.snd r)))))))) = (List.length (unu (u32s (dg ((nv (unu (u32s (dg (Prod.fst r))))) % (nv (unu (u32s (dg (Prod.snd r)))))))))))) ∧ (Dig (unu (u32s (dg ((nv (unu (u32s (dg (Prod.fst r))))) % (nv (unu (u32s (dg (Prod.snd r))))))))))) ∧ (((((0 : Int) ≤ (wordV (unu (u32s (dg (Prod.snd r)))))) ∧ ((wordV (unu (u32s (dg (Prod.snd r))))) < z2)) ∧ (((0 : Int) ≤ (wordV (unu (u32s (dg ((nv (unu (u32s (dg (Prod.fst r))))) % (nv (unu (u32s (dg (Prod.snd r))))))))))) ∧ ((wordV (unu (u32s (dg ((nv (unu (u32s (dg (Prod.fst r))))) % (nv (unu (u32s (dg (Prod.snd r)))))))))) < z2))) ∧ ((((0 : Int) ≤ (((Nat.gcd (Int.toNat (wordV (unu (u32s (dg (Prod.snd r)))))) (Int.toNat (wordV (unu (u32s (dg ((nv (unu (u32s (dg (Prod.fst r))))) % (nv (unu (u32s (dg (Prod.snd r)))))))))))) : Nat) : Int)) ∧ ((((Nat.gcd (Int.toNat (wordV (unu (u32s (dg (Prod.snd r)))))) (Int.toNat (wordV (unu (u32s (dg ((nv (unu (u32s (dg (Prod.fst r))))) % (nv (unu (u32s (dg (Prod.snd r)))))))))))) : Nat) : Int) < z2)) ∧ (True ∧ (True ∧ (True ∧ ((D.ro (List.length (dg (Int.toNat (((Nat.gcd (Int.toNat (wordV (unu (u32s (dg (Prod.snd r)))))) (Int.toNat (wordV (unu (u32s (dg ((nv (unu (u32s (dg (Prod.fst r))))) % (nv (unu (u32s (dg (Prod.snd r)))))))))))) : Nat) : Int)))) (u32s (dg (Int.toNat (((Nat.gcd (Int.toNat (wordV (unu (u32s (dg (Prod.snd r)))))) (Int.toNat (wordV (unu (u32s (dg ((nv (unu (u32s (dg (Prod.fst r))))) % (nv (unu (u32s (dg (Prod.snd r)))))))))))) : Nat) : Int))))) = z0)))))))))))))))))))))))))))))) (z3 ∧ ((z12 ∧ ((z4 = z4) ∧ ((True ∧ (z9 = z5)) ∧ ((True ∧ (z8 = z6)) ∧ True)))) ∧ (∀ (r : (Prod Nat Nat)), (((((Nat.gcd (Prod.fst r) (Prod.snd r)) = z1) ∧ (((Prod.snd r) ≤ (Prod.fst r)) ∧ ((Prod.fst r) ≤ (gP xs ys)))) ∧ ((List.length (dg (Prod.snd r))) ≤ (2 : Nat))) → (True ∧ (True ∧ (True ∧ (pcond ((((List.length (dg (Prod.snd r))) : Nat) : Int) == (0 : Int)) (True ∧ (((((u32s (dg (Prod.fst r))) = (u32s (unu (u32s (dg (Prod.fst r)))))) ∧ ((List.length (dg (Prod.fst r))) = (List.length (unu (u32s (dg (Prod.fst r))))))) ∧ ((List.length (unu (u32s (dg (Prod.fst r))))) ≤ (1000000 : Nat))) ∧ (True ∧ (True ∧ (True ∧ ((D.ro (List.length (unu (u32s (dg (Prod.fst r))))) (u32s (unu (u32s (dg (Prod.fst r)))))) = z0)))))) (True ∧ (True ∧ ((((((u32s (dg (Prod.fst r))) = (u32s (unu (u32s (dg (Prod.fst r)))))) ∧ ((List.length (dg (Prod.fst r))) = (List.length (unu (u32s (dg (Prod.fst r))))))) ∧ (((u32s (dg (Prod.snd r))) = (u32s (unu (u32s (dg (Prod.snd r)))))) ∧ ((List.length (dg (Prod.snd r))) = (List.length (unu (u32s (dg (Prod.snd r)))))))) ∧ (dHyp (unu (u32s (dg (Prod.fst r)))) (unu (u32s (dg (Prod.snd r)))))) ∧ (True ∧ (True ∧ (True ∧ (True ∧ (True ∧ (True ∧ (((((u32s (dg (Prod.snd r))) = (u32s (unu (u32s (dg (Prod.snd r)))))) ∧ ((List.length (dg (Prod.snd r))) = (List.length (unu (u32s (dg (Prod.snd r))))))) ∧ (Dig (unu (u32s (dg (Prod.snd r)))))) ∧ (True ∧ (((((u32s (dg ((nv (unu (u32s (dg (Prod.fst r))))) % (nv (unu (u32s (dg (Prod.snd r)))))))) = (u32s (unu (u32s (dg ((nv (unu (u32s (dg (Prod.fst r))))) % (nv (unu (u32s (dg (Prod.snd r))))))))))) ∧ ((List.length (dg ((nv (unu (u32s (dg (Prod.fst r))))) % (nv (unu (u32s (dg (Prod.snd r)))))))) = (List.length (unu (u32s (dg ((nv (unu (u32s (dg (Prod.fst r))))) % (nv (unu (u32s (dg (Prod.snd r)))))))))))) ∧ (Dig (unu (u32s (dg ((nv (unu (u32s (dg (Prod.fst r))))) % (nv (unu (u32s (dg (Prod.snd r))))))))))) ∧ (((((0 : Int) ≤ (wordV (unu (u32s (dg (Prod.snd r)))))) ∧ ((wordV (unu (u32s (dg (Prod.snd r))))) < z2)) ∧ (((0 : Int) ≤ (wordV (unu (u32s (dg ((nv (unu (u32s (dg (Prod.fst r))))) % (nv (unu (u32s (dg (Prod.snd r))))))))))) ∧ ((wordV (unu (u32s (dg ((nv (unu (u32s (dg (Prod.fst r))))) % (nv (unu (u32s (dg (Prod.snd r)))))))))) < z2))) ∧ ((((0 : Int) ≤ (((Nat.gcd (Int.toNat (wordV (unu (u32s (dg (Prod.snd r)))))) (Int.toNat (wordV (unu (u32s (dg ((nv (unu (u32s (dg (Prod.fst r))))) % (nv (unu (u32s (dg (Prod.snd r)))))))))))) : Nat) : Int)) ∧ ((((Nat.gcd (Int.toNat (wordV (unu (u32s (dg (Prod.snd r)))))) (Int.toNat (wordV (unu (u32s (dg ((nv (unu (u32s (dg (Prod.fst r))))) % (nv (unu (u32s (dg (Prod.snd r)))))))))))) : Nat) : Int) < z2)) ∧ (True ∧ (True ∧ (True ∧ ((D.ro (List.length (dg (Int.toNat (((Nat.gcd (Int.toNat (wordV (unu (u32s (dg (Prod.snd r)))))) (Int.toNat (wordV (unu (u32s (dg ((nv (unu (u32s (dg (Prod.fst r))))) % (nv (unu (u32s (dg (Prod.snd r)))))))))))) : Nat) : Int)))) (u32s (dg (Int.toNat (((Nat.gcd (Int.toNat (wordV (unu (u32s (dg (Prod.snd r)))))) (Int.toNat (wordV (unu (u32s (dg ((nv (unu (u32s (dg (Prod.fst r))))) % (nv (unu (u32s (dg (Prod.snd r)))))))))))) : Nat) : Int))))) = z0))))))))))))))))))))))))))))))))))))) (by kernel_rfl) ?_
  simp only [true_and, and_true, and_self, IsInt_lit, IsBool_lit, IsStr_lit, Bool.not_eq_true', Bool.not_eq_false', Bool.not_true, Bool.not_false, Int.reduceLE, Int.reduceLT, Int.reduceNeg, Nat.le_refl, Int.le_refl, Nat.reduceLT, Nat.reduceLeDiff, Nat.reduceEqDiff, D.v.injEq, D.tup.injEq, D.agg.injEq, D.ro.injEq, List.cons.injEq, Value.int.injEq, Value.bool.injEq, pcond_true, pcond_false, NamelessL, Nameless, Nat.reduceMul, Nat.reduceAdd, Nat.zero_add, Int.toNat_natCast, unu_u32s]
  obtain ⟨⟨hlen, hqp⟩, hgc⟩ := gc_facts hpre
  obtain ⟨⟨hx, hy⟩, gx, gy⟩ := hpre
  rw [← hgc, cmp_canon gx gy]
  have rest : ∀ r : Nat × Nat, (r.fst.gcd r.snd = (gP xs ys).gcd (gQ xs ys) ∧ r.snd ≤ r.fst ∧ r.fst ≤ gP xs ys) ∧ (dg r.snd).length ≤ 2 →
      pcond (((dg r.snd).length : Int) == 0)
        ((dg r.fst).length ≤ 1000000 ∧ (dg r.fst).length = (dg ((gP xs ys).gcd (gQ xs ys))).length ∧ u32s (dg r.fst) = u32s (dg ((gP xs ys).gcd (gQ xs ys))))
        (dHyp (dg r.fst) (dg r.snd) ∧ Dig (dg r.snd) ∧ Dig (dg (nv (dg r.fst) % nv (dg r.snd))) ∧
          ((0 ≤ wordV (dg r.snd) ∧ wordV (dg r.snd) < 18446744073709551616) ∧ 0 ≤ wordV (dg (nv (dg r.fst) % nv (dg r.snd))) ∧ wordV (dg (nv (dg r.fst) % nv (dg r.snd))) < 18446744073709551616) ∧
          (0 ≤ (((wordV (dg r.snd)).toNat.gcd (wordV (dg (nv (dg r.fst) % nv (dg r.snd)))).toNat : Nat) : Int) ∧ (((wordV (dg r.snd)).toNat.gcd (wordV (dg (nv (dg r.fst) % nv (dg r.snd)))).toNat : Nat) : Int) < 18446744073709551616) ∧
          (dg ((wordV (dg r.snd)).toNat.gcd (wordV (dg (nv (dg r.fst) % nv (dg r.snd)))).toNat)).length = (dg ((gP xs ys).gcd (gQ xs ys))).length ∧
          u32s (dg ((wordV (dg r.snd)).toNat.gcd (wordV (dg (nv (dg r.fst) % nv (dg r.snd)))).toNat)) = u32s (dg ((gP xs ys).gcd (gQ xs ys)))) := by
    rintro ⟨a, b⟩ ⟨⟨hg, hle, hp⟩, h2⟩
    simp only at hg hle hp h2 ⊢
    have m1 := dg_len_mono hp
    refine pcond_intro (fun h => ?_) (fun h => ?_)
    · have h0 : (dg b).length = 0 := by simp at h; simp [h]
      have hb : b = 0 := by
        have := nv_dg b
        rw [List.length_eq_zero_iff.1 h0] at this
        simpa [nv] using this.symm
      subst hb
      rw [Nat.gcd_zero_right] at hg
      rw [← hg]
      exact ⟨by omega, rfl, rfl⟩
    · have hb : 0 < b := by
        rcases Nat.eq_zero_or_pos b with h0 | h0
        · subst h0; rw [dg_zero] at h; simp at h
        · exact h0
      have m2 := dg_len_mono hle
      have m3 := dg_len_mono (Nat.le_of_lt (Nat.mod_lt a hb))
      have e1 := word_dg h2
      have e2 := word_dg (v := a % b) (by omega)
      have lb := nv_lt (dg_dig b)
      rw [nv_dg] at lb
      have lp := Nat.pow_le_pow_right (show 0 < 4294967296 by decide) h2
      have e : (4294967296 : Nat) ^ 2 = 18446744073709551616 := by decide
      rw [e] at lp
      have hm := Nat.mod_lt a hb
      have hgl := Nat.gcd_le_left (a % b) hb
      have eg : b.gcd (a % b) = a.gcd b := by rw [Nat.gcd_comm b, ← Nat.gcd_rec b a, Nat.gcd_comm]
      rw [nv_dg, nv_dg, e1, e2, Int.toNat_natCast, Int.toNat_natCast, eg, hg]
      rw [eg, hg] at hgl
      refine ⟨⟨⟨⟨by omega, by omega⟩, by rw [nv_dg], by rw [nv_dg]⟩, by rw [nv_dg]; exact hb⟩, dg_dig _, dg_dig _, ⟨⟨by omega, by omega⟩, by omega, by omega⟩, ⟨by omega, by omega⟩, rfl, rfl⟩
  refine ⟨by omega, pcond_intro (fun h => ?_) (fun h => ?_)⟩
  · have hlt : nv xs < nv ys := by
      unfold cmpN at h
      refine Nat.lt_of_not_le fun hle => ?_
      rw [if_neg (by omega)] at h
      split at h <;> simp at h
    rw [show gP xs ys = nv ys by unfold gP; omega, show gQ xs ys = nv xs by unfold gQ; omega, ← gx, ← gy] at *
    exact ⟨by omega, ⟨⟨rfl, rfl⟩, rfl, rfl⟩, rest⟩
  · have hle : nv ys ≤ nv xs := by
      refine Nat.le_of_not_lt fun hlt => ?_
      unfold cmpN at h
      rw [if_pos hlt] at h
      simp at h
    rw [show gP xs ys = nv xs by unfold gP; omega, show gQ xs ys = nv ys by unfold gQ; omega, ← gx, ← gy] at *
    exact ⟨by omega, ⟨⟨rfl, rfl⟩, rfl, rfl⟩, rest⟩
noncomputable def ent_igcd : Ent := fun ds => match ds with
  | [.ro n_xs ys_xs, .ro n_ys ys_ys] => some (.ro (dg (Nat.gcd (nv (unu ys_xs)) (nv (unu ys_ys)))).length (u32s (dg (Nat.gcd (nv (unu ys_xs)) (nv (unu ys_ys))))), (ys_ys = u32s (unu ys_ys) ∧ n_ys = (unu ys_ys).length) ∧ (ys_xs = u32s (unu ys_xs) ∧ n_xs = (unu ys_xs).length) ∧ gcHyp (unu ys_xs) (unu ys_ys))
  | _ => none
theorem ent_igcd_ok : EntOk Try.prog 62 ent_igcd := by
  intro ds d c h hc; unfold ent_igcd at h; split at h
  · rename_i n_xs ys_xs n_ys ys_ys; obtain ⟨rfl, rfl⟩ := pair_inj h
    obtain ⟨⟨h1, h2⟩, hc⟩ := hc; subst h2; generalize (unu ys_ys) = ys at *; subst h1
    obtain ⟨⟨h1, h2⟩, hc⟩ := hc; subst h2; generalize (unu ys_xs) = xs at *; subst h1
    exact igcd_pure xs ys hc
  · cases h
end Go.Proofs.Ythnhfkpihbjddaa
end
section
namespace Go.Proofs.Ythnhfkpihbjddaa
open Go.VD
set_option linter.unusedVariables false
set_option linter.unusedSimpArgs false
set_option maxRecDepth 100000
def d_ie (p : (Bool × List Nat) × Int) : D := .tup [d_int p.1.1 p.1.2, .v (.int .i64 p.2)]
def d_bx (neg : Bool) (xs : List Nat) : Option Blk := some ⟨24, [.v (.bool neg), .ro xs.length (u32s xs)], true⟩
def gcS (ok : Bool) (G : Nat) : (Bool × List Nat) × Int := bif ok then ((false, dg G), 0) else ((false, []), 1)
theorem sig_nat {G : Nat} (h : (dg G).length ≤ 400) : sigN false (dg G) = false ∧ sigL (dg G) = dg G ∧ sigE (dg G) = 0 := by
  have m := madeN_dg false G
  obtain ⟨s1, s2, s3⟩ := sig_ok (neg := false) (xs := dg G) (v := (G : Int)) (by rw [m.1]; simp) (by rw [m.2]; unfold ofL; simp)
  have l : (ofL (G : Int)).length ≤ 400 := by unfold ofL; simpa using h
  rw [s1, s2, s3]
  unfold okS
  simp only [l, decide_true, cond_true, and_true]
  refine ⟨by simp, by unfold ofL; simp⟩
theorem gcd_len {x y n : Nat} (hx : (dg x).length ≤ n) (hy : (dg y).length ≤ n) : (dg (Nat.gcd x y)).length ≤ n := by
  rcases Nat.eq_zero_or_pos x with h | h
  · subst h; rw [Nat.gcd_zero_left]; exact hy
  · exact Nat.le_trans (dg_len_mono (Nat.gcd_le_left y h)) hx
theorem nv_of (a : Int) : nv (ofL a) = a.natAbs := by unfold ofL; exact nv_dg _
end Go.Proofs.Ythnhfkpihbjddaa
end
section
namespace Go.Proofs.Ythnhfkpihbjddaa
open Go.VD
set_option linter.unusedVariables false
set_option linter.unusedSimpArgs false
set_option maxRecDepth 100000
theorem hGcd_pure (xn : Bool) (xs : List Nat) (yn : Bool) (ys : List Nat) (hpre : LenOk xs ∧ LenOk ys) : PureJ Try.prog 17 [.agg [.v (.bool xn), .ro xs.length (u32s xs)], .agg [.v (.bool yn), .ro ys.length (u32s ys)]] (d_ie (gcS (validL xn xs && validL yn ys) (Nat.gcd (nv xs) (nv ys)))) := by
  refine pureJ_of_vcpN (call := (addPure 33 ent_iValid (addPure 62 ent_igcd (addPure 54 ent_isigned noCalls)))) (lp := fun _ => none) (N := 10) T_ok mixed (addPure_ok ent_iValid_ok (addPure_ok ent_igcd_ok (addPure_ok ent_isigned_ok noCalls_ok))) Try.func17 rfl (by decide) (by kernel_rfl) (by kernel_rfl) (LpAllP.none _) (by (simp [NamelessL, Nameless, d_ie, d_int, u32s_nameless]; done)) (by (simp [NamelessL, Nameless, d_ie, d_int, u32s_nameless]; done)) ?_
  refine of_eq (B := letI z3 := (gcS ((validL xn xs) && (validL yn ys)) (Nat.gcd (nv xs) (nv ys))); letI z12 := (Prod.snd (Prod.fst z3)); letI z0 := (D.tup [(D.agg [(D.v (Value.bool (Prod.fst (Prod.fst z3)))), (D.ro (List.length z12) (u32s z12))]), (D.v (Value.int IntKind.i64 (Prod.snd z3)))]); letI z8 := (unu (u32s xs)); letI z9 := (unu (u32s ys)); letI z1 := (dg (Nat.gcd (nv z8) (nv z9))); letI z4 := ((2 : Nat) ≤ (2 : Nat)); letI z11 := (((2 : Nat) = (2 : Nat)) ∧ z4); letI z10 := ((True ∧ (True ∧ True)) ∧ (True ∧ True)); letI z2 := (True ∧ (z11 ∧ (True ∧ ((z4 ∧ True) ∧ (z10 ∧ ((D.tup [(D.agg [(D.v (Value.bool Bool.false)), (D.ro (0 : Nat) ([] : List D))]), (D.v (Value.int IntKind.i64 (1 : Int)))]) = z0)))))); letI z5 := (((u32s xs) = (u32s z8)) ∧ ((List.length xs) = (List.length z8))); letI z6 := (((u32s ys) = (u32s z9)) ∧ ((List.length ys) = (List.length z9))); letI z7 := (unu (u32s z1)); letI z13 := ((1 : Nat) < (2 : Nat)); letI z14 := (1000000000000 : Nat); (True ∧ (True ∧ (True ∧ (True ∧ (z4 ∧ ((z5 ∧ ((List.length z8) ≤ z14)) ∧ (True ∧ (True ∧ (pcond (!(validL xn z8)) (True ∧ z2) (z4 ∧ ((z6 ∧ ((List.length z9) ≤ z14)) ∧ (True ∧ (True ∧ (pcond (!(validL yn z9)) z2 (True ∧ (z13 ∧ (True ∧ (z13 ∧ ((z6 ∧ (z5 ∧ (gcHyp z8 z9))) ∧ (((((u32s z1) = (u32s z7)) ∧ ((List.length z1) = (List.length z7))) ∧ ((List.length z7) ≤ (1000000 : Nat))) ∧ (True ∧ (True ∧ (z11 ∧ (True ∧ ((z4 ∧ True) ∧ (z10 ∧ ((D.tup [(D.agg [(D.v (Value.bool (sigN Bool.false z7))), (D.ro (List.length (sigL z7)) (u32s (sigL z7)))]), (D.v (Value.int IntKind.i64 (sigE z7)))]) = z0)))))))))))))))))))))))))))) (by kernel_rfl) ?_
  simp only [true_and, and_true, and_self, IsInt_lit, IsBool_lit, IsStr_lit, Bool.not_eq_true', Bool.not_eq_false', Bool.not_true, Bool.not_false, Int.reduceLE, Int.reduceLT, Int.reduceNeg, Nat.le_refl, Int.le_refl, Nat.reduceLT, Nat.reduceLeDiff, Nat.reduceEqDiff, D.v.injEq, D.tup.injEq, D.agg.injEq, D.ro.injEq, List.cons.injEq, Value.int.injEq, Value.bool.injEq, pcond_true, pcond_false, NamelessL, Nameless, Nat.reduceMul, Nat.reduceAdd, Nat.zero_add, Int.toNat_natCast, unu_u32s]
  obtain ⟨⟨lx, dx⟩, ly, dy⟩ := hpre
  refine ⟨by omega, pcond_intro (fun h => ?_) (fun h => ⟨by omega, pcond_intro (fun h2 => ?_) (fun h2 => ?_)⟩)⟩
  · simp only [Bool.not_eq_true'] at h; simp [gcS, h, u32s]
  · simp only [Bool.not_eq_true', Bool.not_eq_false'] at h h2; simp [gcS, h, h2, u32s]
  · simp only [Bool.not_eq_false'] at h h2
    obtain ⟨gx, lx4⟩ := valid_good dx h
    obtain ⟨gy, ly4⟩ := valid_good dy h2
    have lg : (dg ((nv xs).gcd (nv ys))).length ≤ 400 := gcd_len (by rw [← gx.1]; exact lx4) (by rw [← gy.1]; exact ly4)
    obtain ⟨s1, s2, s3⟩ := sig_nat lg
    rw [s1, s2, s3, h, h2]
    exact ⟨⟨⟨by omega, by omega⟩, gx.1, gy.1⟩, by omega, ⟨rfl, rfl, rfl⟩, rfl⟩
def ent_hGcd : Ent := fun ds => match ds with
  | [.agg [.v (.bool xn), .ro n_xs ys_xs], .agg [.v (.bool yn), .ro n_ys ys_ys]] => some (d_ie (gcS (validL xn (unu ys_xs) && validL yn (unu ys_ys)) (Nat.gcd (nv (unu ys_xs)) (nv (unu ys_ys)))), (ys_ys = u32s (unu ys_ys) ∧ n_ys = (unu ys_ys).length) ∧ (ys_xs = u32s (unu ys_xs) ∧ n_xs = (unu ys_xs).length) ∧ LenOk (unu ys_xs) ∧ LenOk (unu ys_ys))
  | _ => none
theorem ent_hGcd_ok : EntOk Try.prog 17 ent_hGcd := by
  intro ds d c h hc; unfold ent_hGcd at h; split at h
  · rename_i xn n_xs ys_xs yn n_ys ys_ys; obtain ⟨rfl, rfl⟩ := pair_inj h
    obtain ⟨⟨h1, h2⟩, hc⟩ := hc; subst h2; generalize (unu ys_ys) = ys at *; subst h1
    obtain ⟨⟨h1, h2⟩, hc⟩ := hc; subst h2; generalize (unu ys_xs) = xs at *; subst h1
    exact hGcd_pure _ xs _ ys hc
  · cases h
end Go.Proofs.Ythnhfkpihbjddaa
end
section
namespace Go.Proofs.Ythnhfkpihbjddaa
open Go.VD
set_option linter.unusedVariables false
set_option linter.unusedSimpArgs false
set_option maxRecDepth 100000
def d_lg (v : Nat) : D := .ro (dg v).length (u32s (dg v))
def lp_ggcdLoop (xn : Bool) (xs : List Nat) (yn : Bool) (ys : List Nat) : LoopO := loopRule (α := Nat × Nat) (β := Unit) [some 0, some 1, some 2] (fun s => Nat.gcd s.1 s.2 = Nat.gcd (nv xs) (nv ys) ∧ (dg s.1).length ≤ 1000 ∧ (dg s.2).length ≤ 1000) (fun s => [(4, .ptr 2 0), (6, d_lg s.1), (7, d_lg s.2)]) (fun s => [d_bx xn xs, d_bx yn ys, some ⟨24, [.v (.bool false), .v (.slice none 0 0)], true⟩]) ((nv xs, nv ys)) (fun _ => True) (fun _ => (.exit 0, [(4, .ptr 2 0), (6, d_lg (Nat.gcd (nv xs) (nv ys)))], [d_bx xn xs, d_bx yn ys, some ⟨24, [.v (.bool false), .v (.slice none 0 0)], true⟩]))
theorem ggcdLoop_rule (xn : Bool) (xs : List Nat) (yn : Bool) (ys : List Nat) (hpre : LenOk xs ∧ LenOk ys) : LRuleP Try.prog Try.f18.ntmps (loopAt ((Try.f18.body).getD .skip) 4) (lp_ggcdLoop xn xs yn ys) := by
  refine lrule_of (α := Nat × Nat) (β := Unit) (call := (addPure 55 ent_gdiv (addPure 56 ent_trim noCalls))) (lp := fun _ => none) (N := 10) T_ok mixed (addPure_ok ent_gdiv_ok (addPure_ok ent_trim_ok noCalls_ok)) (fun s => s.2) (by kernel_rfl) (LpAllP.none _) ?_
  intro x hJ
  refine of_eq (B := letI z13 := (dg (Prod.fst x)); letI z5 := (u32s z13); letI z4 := (dg (Prod.snd x)); letI z11 := (unu (u32s z4)); letI z0 := (dg ((nv (unu z5)) % (nv z11))); letI z12 := (Exit.exit (0 : Nat)); letI z3 := (Prod.mk (4 : Nat) (D.ptr (2 : Nat) (0 : Nat))); letI z16 := (Nat.gcd (nv xs) (nv ys)); letI z15 := (D.v (Value.bool Bool.false)); letI z2 := (D.v (Value.slice (Option.none) (0 : Nat) (0 : Nat))); letI z8 := (Option.some (Blk.mk (24 : TypeId) [z15, z2] Bool.true)); letI z1 := (Prod.mk z12 (Prod.mk [z3, (Prod.mk (6 : Nat) (d_lg z16))] [(d_bx xn xs), (d_bx yn ys), z8])); letI z6 := (Option.some (Blk.mk (24 : Nat) [(D.v (Value.bool xn)), (D.ro (List.length xs) (u32s xs))] Bool.true)); letI z7 := (Option.some (Blk.mk (24 : Nat) [(D.v (Value.bool yn)), (D.ro (List.length ys) (u32s ys))] Bool.true)); letI z9 := (Option.some (Blk.mk (24 : Nat) [z15, z2] Bool.true)); letI z10 := (unu (u32s z0)); letI z14 := List.length z4; letI z17 := (List (Option Nat)); (True ∧ (True ∧ (True ∧ (pcond (Decidable.decide ((0 : Int) < ((z14 : Nat) : Int))) (True ∧ (True ∧ (((((z5 = (u32s (unu z5))) ∧ ((List.length z13) = (List.length (unu z5)))) ∧ (((u32s z4) = (u32s z11)) ∧ (z14 = (List.length z11)))) ∧ (dHyp (unu z5) z11)) ∧ (True ∧ (True ∧ (True ∧ (True ∧ (True ∧ (True ∧ (True ∧ (((((u32s z0) = (u32s z10)) ∧ ((List.length z0) = (List.length z10))) ∧ ((List.length z10) ≤ (1000000 : Nat))) ∧ (True ∧ (True ∧ (∃ (y : (Prod Nat Nat)), (∃ (kp : z17), (((Prod.snd y) < (Prod.snd x)) ∧ ((((Nat.gcd (Prod.fst y) (Prod.snd y)) = z16) ∧ (((List.length (dg (Prod.fst y))) ≤ (1000 : Nat)) ∧ ((List.length (dg (Prod.snd y))) ≤ (1000 : Nat)))) ∧ (viewAll kp [z3, (Prod.mk (6 : Nat) (D.ro z14 (u32s z4))), (Prod.mk (7 : Nat) (D.ro (List.length (trimL z10)) (u32s (trimL z10))))] [z6, z7, z9] [z3, (Prod.mk (6 : Nat) (d_lg (Prod.fst y))), (Prod.mk (7 : Nat) (d_lg (Prod.snd y)))] [(d_bx xn xs), (d_bx yn ys), z8])))))))))))))))))) (∃ (r : Unit), (∃ (kp : z17), (True ∧ ((z12 = z12) ∧ (viewAll kp [z3, (Prod.mk (6 : Nat) (D.ro (List.length z13) z5))] [z6, z7, z9] (Prod.fst (Prod.snd ((fun (x_1 : Unit) => z1) r))) (Prod.snd (Prod.snd ((fun (x_1 : Unit) => z1) r))))))))))))) (by kernel_rfl) ?_
  obtain ⟨a, b⟩ := x
  obtain ⟨hg, la, lb⟩ := hJ
  simp only at hg la lb
  simp only [true_and, and_true, and_self, IsInt_lit, IsBool_lit, IsStr_lit, Bool.not_eq_true', Bool.not_eq_false', Bool.not_true, Bool.not_false, Int.reduceLE, Int.reduceLT, Int.reduceNeg, Nat.le_refl, Int.le_refl, Nat.reduceLT, Nat.reduceLeDiff, Nat.reduceEqDiff, D.v.injEq, D.tup.injEq, D.agg.injEq, D.ro.injEq, List.cons.injEq, Value.int.injEq, Value.bool.injEq, pcond_true, pcond_false, NamelessL, Nameless, Nat.reduceMul, Nat.reduceAdd, Nat.zero_add, Int.toNat_natCast, unu_u32s] at *
  refine pcond_intro (fun h => ?_) (fun h => ?_)
  · simp only [decide_eq_true_eq] at h
    have hb : 0 < b := by
      rcases Nat.eq_zero_or_pos b with h0 | h0
      · subst h0; rw [dg_zero] at h; simp at h
      · exact h0
    have hm := Nat.mod_lt a hb
    have l2 := dg_len_mono (Nat.le_of_lt hm)
    have ht : trimL (dg (a % b)) = dg (a % b) := (madeN_dg false _).2
    rw [nv_dg, nv_dg, ht]
    refine ⟨⟨⟨⟨by omega, by omega⟩, by rw [nv_dg], by rw [nv_dg]⟩, by rw [nv_dg]; exact hb⟩, by omega, (b, a % b), [some 0, some 1, some 2], hm, ⟨?_, lb, by simp only; omega⟩, ?_⟩
    · simp only
      rw [← hg, Nat.gcd_comm a b, Nat.gcd_rec b a, Nat.gcd_comm]
    · refine of_eq (B := letI z8 := (D.v (Value.bool Bool.false)); letI z3 := (D.v (Value.slice (Option.none) (0 : Nat) (0 : Nat))); letI z0 := (Option.some (Blk.mk (24 : Nat) [z8, z3] Bool.true)); letI z11 := (D.v (Value.bool xn)); letI z6 := (D.ro (List.length xs) (u32s xs)); letI z1 := (Option.some (Blk.mk (24 : Nat) [z11, z6] Bool.true)); letI z12 := (D.v (Value.bool yn)); letI z7 := (D.ro (List.length ys) (u32s ys)); letI z2 := (Option.some (Blk.mk (24 : Nat) [z12, z7] Bool.true)); letI z4 := (D.ro (List.length (dg (a % b))) (u32s (dg (a % b)))); letI z5 := (D.ro (List.length (dg b)) (u32s (dg b))); letI z9 := (D.ptr (2 : Nat) (0 : Nat)); letI z10 := ([] : List (Option Blk)); ((Bool.true = Bool.true) ∧ ((((z1 = z1) ∧ (NamelessL [z11, z6])) ∧ (((z2 = z2) ∧ (NamelessL [z12, z7])) ∧ (((z0 = z0) ∧ (NamelessL [z8, z3])) ∧ (z10 = z10)))) ∧ ((True ∧ (z9 = z9)) ∧ ((True ∧ (z5 = z5)) ∧ ((True ∧ (z4 = z4)) ∧ True)))))) (by kernel_rfl) ?_
      simp [NamelessL, Nameless, u32s_nameless]
  · have hb : b = 0 := by
      have h0 : (dg b).length = 0 := by simp at h; simp [h]
      have := nv_dg b
      rw [List.length_eq_zero_iff.1 h0] at this
      simpa [nv] using this.symm
    subst hb
    rw [Nat.gcd_zero_right] at hg
    rw [← hg]
    refine ⟨(), [some 0, some 1, some 2], ?_⟩
    refine of_eq (B := letI z7 := (D.v (Value.bool Bool.false)); letI z3 := (D.v (Value.slice (Option.none) (0 : Nat) (0 : Nat))); letI z0 := (Option.some (Blk.mk (24 : Nat) [z7, z3] Bool.true)); letI z10 := (D.v (Value.bool xn)); letI z5 := (D.ro (List.length xs) (u32s xs)); letI z1 := (Option.some (Blk.mk (24 : Nat) [z10, z5] Bool.true)); letI z11 := (D.v (Value.bool yn)); letI z6 := (D.ro (List.length ys) (u32s ys)); letI z2 := (Option.some (Blk.mk (24 : Nat) [z11, z6] Bool.true)); letI z4 := (D.ro (List.length (dg a)) (u32s (dg a))); letI z8 := (D.ptr (2 : Nat) (0 : Nat)); letI z9 := ([] : List (Option Blk)); ((Bool.true = Bool.true) ∧ ((((z1 = z1) ∧ (NamelessL [z10, z5])) ∧ (((z2 = z2) ∧ (NamelessL [z11, z6])) ∧ (((z0 = z0) ∧ (NamelessL [z7, z3])) ∧ (z9 = z9)))) ∧ ((True ∧ (z8 = z8)) ∧ ((True ∧ (z4 = z4)) ∧ True))))) (by kernel_rfl) ?_
    simp [NamelessL, Nameless, u32s_nameless]
theorem gGcd_pure (xn : Bool) (xs : List Nat) (yn : Bool) (ys : List Nat) (hpre : LenOk xs ∧ LenOk ys) : PureJ Try.prog 18 [.agg [.v (.bool xn), .ro xs.length (u32s xs)], .agg [.v (.bool yn), .ro ys.length (u32s ys)]] (d_ie (gcS (validL xn xs && validL yn ys) (Nat.gcd (nv xs) (nv ys)))) := by
  refine pureJ_of_vcpN (call := (addPure 21 ent_Valid (addPure 56 ent_trim (addPure 60 ent_made noCalls)))) (lp := fun k => bif Nat.beq k 4 then some (lp_ggcdLoop xn xs yn ys) else none) (N := 10) T_ok mixed (addPure_ok ent_Valid_ok (addPure_ok ent_trim_ok (addPure_ok ent_made_ok noCalls_ok))) Try.func18 rfl (by decide) (by kernel_rfl) (by kernel_rfl) (of_eq (B := LRuleP Try.prog Try.f18.ntmps (loopAt ((Try.f18.body).getD .skip) 4) (lp_ggcdLoop xn xs yn ys) ∧ True) (by kernel_rfl) ⟨ggcdLoop_rule xn xs yn ys hpre, trivial⟩) (by (simp [NamelessL, Nameless, d_ie, d_int, u32s_nameless]; done)) (by (simp [NamelessL, Nameless, d_ie, d_int, u32s_nameless]; done)) ?_
  refine of_eq (B := letI z2 := (Nat.gcd (nv xs) (nv ys)); letI z4 := (gcS ((validL xn xs) && (validL yn ys)) z2); letI z26 := (Prod.snd (Prod.fst z4)); letI z0 := (D.tup [(D.agg [(D.v (Value.bool (Prod.fst (Prod.fst z4)))), (D.ro (List.length z26) (u32s z26))]), (D.v (Value.int IntKind.i64 (Prod.snd z4)))]); letI z5 := ((2 : Nat) ≤ (2 : Nat)); letI z18 := (((2 : Nat) = (2 : Nat)) ∧ z5); letI z15 := ((True ∧ (True ∧ True)) ∧ (True ∧ True)); letI z13 := (D.v (Value.bool Bool.false)); letI z1 := (True ∧ (z18 ∧ (True ∧ ((z5 ∧ True) ∧ (z15 ∧ ((D.tup [(D.agg [z13, (D.ro (0 : Nat) ([] : List D))]), (D.v (Value.int IntKind.i64 (1 : Int)))]) = z0)))))); letI z14 := (D.v (Value.slice (Option.none) (0 : Nat) (0 : Nat))); letI z3 := (Option.some (Blk.mk (24 : Nat) [z13, z14] Bool.true)); letI z30 := (D.v (Value.bool xn)); letI z16 := (D.ro (List.length xs) (u32s xs)); letI z6 := (Option.some (Blk.mk (24 : Nat) [z30, z16] Bool.true)); letI z31 := (D.v (Value.bool yn)); letI z17 := (D.ro (List.length ys) (u32s ys)); letI z7 := (Option.some (Blk.mk (24 : Nat) [z31, z17] Bool.true)); letI z8 := (unu (u32s xs)); letI z9 := (unu (u32s ys)); letI z10 := (unu (u32s (dg z2))); letI z19 := List.length z8; letI z11 := (((u32s xs) = (u32s z8)) ∧ ((List.length xs) = z19)); letI z20 := List.length z9; letI z12 := (((u32s ys) = (u32s z9)) ∧ ((List.length ys) = z20)); letI z21 := (1000000 : Nat); letI z22 := (D.ptr (2 : Nat) (0 : Nat)); letI z23 := (List.length (dg (nv xs))); letI z24 := (List.length (dg (nv ys))); letI z25 := ([] : List (Option Blk)); letI z27 := ((1 : Nat) < (2 : Nat)); letI z28 := Bool.true = Bool.true; letI z29 := (1000000000000 : Nat); (True ∧ (True ∧ (True ∧ (True ∧ (z5 ∧ ((z11 ∧ (z19 ≤ z29)) ∧ (True ∧ (True ∧ (pcond (!(validL xn z8)) (True ∧ z1) (z5 ∧ ((z12 ∧ (z20 ≤ z29)) ∧ (True ∧ (True ∧ (pcond (!(validL yn z9)) z1 (True ∧ (z27 ∧ ((z11 ∧ (z19 ≤ z21)) ∧ (True ∧ (z27 ∧ ((z12 ∧ (z20 ≤ z21)) ∧ (True ∧ (True ∧ (z28 ∧ (((z2 = z2) ∧ ((z23 ≤ (1000 : Nat)) ∧ (z24 ≤ (1000 : Nat)))) ∧ ((z28 ∧ ((((z6 = z6) ∧ (NamelessL [z30, z16])) ∧ (((z7 = z7) ∧ (NamelessL [z31, z17])) ∧ (((z3 = z3) ∧ (NamelessL [z13, z14])) ∧ (z25 = z25)))) ∧ ((True ∧ (z22 = z22)) ∧ ((True ∧ ((D.ro (List.length (trimL z8)) (u32s (trimL z8))) = (D.ro z23 (u32s (dg (nv xs)))))) ∧ ((True ∧ ((D.ro (List.length (trimL z9)) (u32s (trimL z9))) = (D.ro z24 (u32s (dg (nv ys)))))) ∧ True))))) ∧ (Unit → (True → (True ∧ (((((u32s (dg z2)) = (u32s z10)) ∧ ((List.length (dg z2)) = (List.length z10))) ∧ ((List.length z10) ≤ z21)) ∧ (z18 ∧ (True ∧ ((z5 ∧ True) ∧ (z15 ∧ ((D.tup [(D.agg [(D.v (Value.bool (madeN Bool.false z10))), (D.ro (List.length (trimL z10)) (u32s (trimL z10)))]), (D.v (Value.int IntKind.i64 (0 : Int)))]) = z0))))))))))))))))))))))))))))))))))) (by kernel_rfl) ?_
  simp only [true_and, and_true, and_self, IsInt_lit, IsBool_lit, IsStr_lit, Bool.not_eq_true', Bool.not_eq_false', Bool.not_true, Bool.not_false, Int.reduceLE, Int.reduceLT, Int.reduceNeg, Nat.le_refl, Int.le_refl, Nat.reduceLT, Nat.reduceLeDiff, Nat.reduceEqDiff, D.v.injEq, D.tup.injEq, D.agg.injEq, D.ro.injEq, List.cons.injEq, Value.int.injEq, Value.bool.injEq, pcond_true, pcond_false, NamelessL, Nameless, Nat.reduceMul, Nat.reduceAdd, Nat.zero_add, Int.toNat_natCast, unu_u32s]
  obtain ⟨⟨lx, dx⟩, ly, dy⟩ := hpre
  refine ⟨by omega, pcond_intro (fun h => ?_) (fun h => ⟨by omega, pcond_intro (fun h2 => ?_) (fun h2 => ?_)⟩)⟩
  · simp only [Bool.not_eq_true'] at h; simp [gcS, h, u32s]
  · simp only [Bool.not_eq_true', Bool.not_eq_false'] at h h2; simp [gcS, h, h2, u32s]
  · simp only [Bool.not_eq_false'] at h h2
    obtain ⟨gx, lx4⟩ := valid_good dx h
    obtain ⟨gy, ly4⟩ := valid_good dy h2
    have lg : (dg ((nv xs).gcd (nv ys))).length ≤ 400 := gcd_len (by rw [← gx.1]; exact lx4) (by rw [← gy.1]; exact ly4)
    have m := madeN_dg false ((nv xs).gcd (nv ys))
    have tx : trimL xs = dg (nv xs) := trimL_dig dx
    have ty : trimL ys = dg (nv ys) := trimL_dig dy
    rw [m.1, m.2, tx, ty, h, h2, ← gx.1, ← gy.1]
    exact ⟨by omega, by omega, ⟨lx, ly⟩, ⟨⟨u32s_nameless _, u32s_nameless _⟩, ⟨rfl, rfl⟩, rfl, rfl⟩, fun _ _ => ⟨by omega, ⟨rfl, rfl, rfl⟩, rfl⟩⟩
def ent_gGcd : Ent := fun ds => match ds with
  | [.agg [.v (.bool xn), .ro n_xs ys_xs], .agg [.v (.bool yn), .ro n_ys ys_ys]] => some (d_ie (gcS (validL xn (unu ys_xs) && validL yn (unu ys_ys)) (Nat.gcd (nv (unu ys_xs)) (nv (unu ys_ys)))), (ys_ys = u32s (unu ys_ys) ∧ n_ys = (unu ys_ys).length) ∧ (ys_xs = u32s (unu ys_xs) ∧ n_xs = (unu ys_xs).length) ∧ LenOk (unu ys_xs) ∧ LenOk (unu ys_ys))
  | _ => none
theorem ent_gGcd_ok : EntOk Try.prog 18 ent_gGcd := by
  intro ds d c h hc; unfold ent_gGcd at h; split at h
  · rename_i xn n_xs ys_xs yn n_ys ys_ys; obtain ⟨rfl, rfl⟩ := pair_inj h
    obtain ⟨⟨h1, h2⟩, hc⟩ := hc; subst h2; generalize (unu ys_ys) = ys at *; subst h1
    obtain ⟨⟨h1, h2⟩, hc⟩ := hc; subst h2; generalize (unu ys_xs) = xs at *; subst h1
    exact gGcd_pure _ xs _ ys hc
  · cases h
end Go.Proofs.Ythnhfkpihbjddaa
end
section
namespace Go.Proofs.Ythnhfkpihbjddaa
open Go.VD
set_option linter.unusedVariables false
set_option linter.unusedSimpArgs false
set_option maxRecDepth 100000
theorem exists_sq : ∀ x : Nat, ∃ s, s * s ≤ x ∧ x < (s + 1) * (s + 1)
  | 0 => ⟨0, by decide, by decide⟩
  | x + 1 => by
    obtain ⟨s, h1, h2⟩ := exists_sq x
    by_cases h : (s + 1) * (s + 1) ≤ x + 1
    · refine ⟨s + 1, h, ?_⟩
      have : (s + 1 + 1) * (s + 1 + 1) = (s + 1) * (s + 1) + 2 * (s + 1) + 1 := by grind
      omega
    · exact ⟨s, by omega, by omega⟩
noncomputable def sq (x : Nat) : Nat := Classical.choose (exists_sq x)
theorem sq_spec (x : Nat) : sq x * sq x ≤ x ∧ x < (sq x + 1) * (sq x + 1) := Classical.choose_spec (exists_sq x)
theorem sq_unique {x s t : Nat} (h1 : s * s ≤ x) (h2 : x < (t + 1) * (t + 1)) : s ≤ t := by
  refine Nat.le_of_not_lt fun h => ?_
  have := Nat.mul_le_mul (show t + 1 ≤ s from h) (show t + 1 ≤ s from h)
  omega
theorem sq_eq {x s : Nat} (h1 : s * s ≤ x) (h2 : x < (s + 1) * (s + 1)) : s = sq x := by
  obtain ⟨g1, g2⟩ := sq_spec x
  exact Nat.le_antisymm (sq_unique h1 g2) (sq_unique g1 h2)
theorem newton_ge {x r s : Nat} (hr : 0 < r) (hs : s * s ≤ x) : s ≤ (r + x / r) / 2 := by
  rw [Nat.le_div_iff_mul_le (by decide)]
  rcases Nat.le_total (2 * s) r with h | h
  · generalize x / r = e; omega
  · have : 2 * s - r ≤ x / r := by
      rw [Nat.le_div_iff_mul_le hr]
      refine Nat.le_trans ?_ hs
      rcases Nat.le_total r s with h1 | h1
      · obtain ⟨d, rfl⟩ : ∃ d, s = r + d := ⟨s - r, by omega⟩
        rw [show 2 * (r + d) - r = r + 2 * d by omega]
        have : (r + d) * (r + d) = (r + 2 * d) * r + d * d := by grind
        omega
      · obtain ⟨d, rfl⟩ : ∃ d, r = s + d := ⟨r - s, by omega⟩
        obtain ⟨e, rfl⟩ : ∃ e, s = d + e := ⟨s - d, by omega⟩
        rw [show 2 * (d + e) - (d + e + d) = e by omega]
        have : (d + e) * (d + e) = e * (d + e + d) + d * d := by grind
        omega
    generalize x / r = e at *; omega
theorem newton {x r : Nat} (hx : 0 < x) (hr : 0 < r) (h : x < (r + 1) * (r + 1)) : (0 < (r + x / r) / 2 ∧ x < ((r + x / r) / 2 + 1) * ((r + x / r) / 2 + 1)) ∧ (r ≤ (r + x / r) / 2 → r * r ≤ x) := by
  obtain ⟨g1, g2⟩ := sq_spec x
  have hn := newton_ge hr g1
  have hs : 0 < sq x := by
    rcases Nat.eq_zero_or_pos (sq x) with h0 | h0
    · rw [h0] at g2; omega
    · exact h0
  refine ⟨⟨by omega, ?_⟩, fun hle => ?_⟩
  · have := Nat.mul_le_mul (show sq x + 1 ≤ (r + x / r) / 2 + 1 by omega) (show sq x + 1 ≤ (r + x / r) / 2 + 1 by omega)
    omega
  · refine Nat.le_of_not_lt fun hlt => ?_
    have : x / r < r := (Nat.div_lt_iff_lt_mul hr).2 hlt
    omega
theorem add_len (a b : Nat) : (dg (a + b)).length ≤ (dg a).length + (dg b).length + 1 := by
  refine dg_length_le ?_
  have h1 := lt_of_dg_length (v := a) (Nat.le_refl _)
  have h2 := lt_of_dg_length (v := b) (Nat.le_refl _)
  have p1 : 0 < 4294967296 ^ (dg a).length := Nat.pow_pos (by decide)
  have p2 : 0 < 4294967296 ^ (dg b).length := Nat.pow_pos (by decide)
  rw [Nat.pow_succ, Nat.pow_add]
  generalize 4294967296 ^ (dg a).length = A at *
  generalize 4294967296 ^ (dg b).length = B at *
  have m1 := Nat.mul_le_mul_left A p2
  have m2 := Nat.mul_le_mul_right B p1
  generalize A * B = C at *
  omega
def rHyp (xs : List Nat) : Prop := xs.length ≤ 40000 ∧ xs = dg (nv xs)
def d_lr (v : Nat) : D := .ro (dg v).length (u32s (dg v))
def lp_rootLoop (xs : List Nat) : LoopO := loopRule2 (α := Nat) (β := Unit) (γ := Nat) [] (fun r => (0 < nv xs ∧ 0 < r ∧ (dg r).length ≤ 40000) ∧ nv xs < (r + 1) * (r + 1)) (fun r => [(0, .ro xs.length (u32s xs)), (4, d_lr r)]) (fun _ => []) (2 ^ ((32 * (xs.length - 1) + bl (xs.getD (xs.length - 1) 0) + 1) / 2)) (fun _ => False) (fun _ => (.exit 0, [], [])) (fun r => r * r ≤ nv xs ∧ nv xs < (r + 1) * (r + 1)) (fun r => (.ret, [(2, d_lr r)], []))
theorem rootLoop_rule (xs : List Nat) (hpre : rHyp xs) : LRuleP Try.prog Try.f63.ntmps (loopAt ((Try.f63.body).getD .skip) 6) (lp_rootLoop xs) := by
  refine lrule_of2 (α := Nat) (β := Unit) (γ := Nat) (call := (addPure 51 ent_idiv (addPure 52 ent_iadd (addPure 94 ent_ishr (addPure 65 ent_icompare noCalls))))) (lp := fun _ => none) (N := 10) T_ok mixed (addPure_ok ent_idiv_ok (addPure_ok ent_iadd_ok (addPure_ok ent_ishr_ok (addPure_ok ent_icompare_ok noCalls_ok)))) (fun r => r) (by kernel_rfl) (LpAllP.none _) ?_
  intro x hJ
  refine of_eq (B := letI z5 := (unu (u32s (dg x))); letI z10 := (unu (u32s xs)); letI z1 := (dg ((nv z10) / (nv z5))); letI z8 := (unu (u32s z1)); letI z0 := (dg ((nv z5) + (nv z8))); letI z9 := (unu (u32s z0)); letI z2 := (dg ((nv z9) / (2 : Nat))); letI z15 := (List.length (dg x)); letI z3 := (((u32s (dg x)) = (u32s z5)) ∧ (z15 = (List.length z5))); letI z4 := ([] : List (Option Blk)); letI z14 := (Exit.exit (0 : Nat)); letI z13 := ([] : List (Prod Nat D)); letI z6 := (Prod.mk z14 (Prod.mk z13 z4)); letI z7 := (Prod.mk (0 : Nat) (D.ro (List.length xs) (u32s xs))); letI z11 := (unu (u32s z2)); letI z12 := (List (Option Nat)); (True ∧ (True ∧ ((((((u32s xs) = (u32s z10)) ∧ ((List.length xs) = (List.length z10))) ∧ z3) ∧ (dHyp z10 z5)) ∧ (True ∧ (True ∧ (True ∧ (True ∧ (True ∧ (True ∧ (True ∧ (((((u32s z1) = (u32s z8)) ∧ ((List.length z1) = (List.length z8))) ∧ (z3 ∧ (((List.length z5) ≤ (400000 : Nat)) ∧ (((List.length z8) ≤ (400000 : Nat)) ∧ ((Dig z5) ∧ (Dig z8)))))) ∧ (((((u32s z0) = (u32s z9)) ∧ ((List.length z0) = (List.length z9))) ∧ ((((List.length z9) ≤ (1000000 : Nat)) ∧ (Dig z9)) ∧ (((0 : Int) ≤ (1 : Int)) ∧ ((1 : Int) < (32 : Int))))) ∧ (True ∧ (True ∧ (True ∧ ((z3 ∧ ((((u32s z2) = (u32s z11)) ∧ ((List.length z2) = (List.length z11))) ∧ ((List.length z11) ≤ (1000000000000 : Nat)))) ∧ (True ∧ (pcond (Decidable.decide ((0 : Int) ≤ (cmpL z11 z5))) (True ∧ (True ∧ ((∃ (r : Unit), (∃ (kp : z12), (False ∧ ((Exit.ret = z14) ∧ (viewAll kp z13 z4 (Prod.fst (Prod.snd ((fun (x_1 : Unit) => z6) r))) (Prod.snd (Prod.snd ((fun (x_1 : Unit) => z6) r)))))))) ∨ (∃ (r : Nat), (∃ (kp : z12), ((((r * r) ≤ (nv xs)) ∧ ((nv xs) < ((r + (1 : Nat)) * (r + (1 : Nat))))) ∧ ((Exit.ret = Exit.ret) ∧ (viewAll kp [(Prod.mk (2 : Nat) (D.ro z15 (u32s (dg x))))] z4 (Prod.fst (Prod.snd ((fun (r_1 : Nat) => (Prod.mk Exit.ret (Prod.mk [(Prod.mk (2 : Nat) (d_lr r_1))] z4))) r))) (Prod.snd (Prod.snd ((fun (r_1 : Nat) => (Prod.mk Exit.ret (Prod.mk [(Prod.mk (2 : Nat) (d_lr r_1))] z4))) r))))))))))) (True ∧ (True ∧ (∃ (y : Nat), (∃ (kp : z12), ((y < x) ∧ (((((0 : Nat) < (nv xs)) ∧ (((0 : Nat) < y) ∧ ((List.length (dg y)) ≤ (40000 : Nat)))) ∧ ((nv xs) < ((y + (1 : Nat)) * (y + (1 : Nat))))) ∧ (viewAll kp [z7, (Prod.mk (4 : Nat) (D.ro (List.length z2) (u32s z2)))] z4 [z7, (Prod.mk (4 : Nat) (d_lr y))] z4)))))))))))))))))))))))))) (by kernel_rfl) ?_
  simp only [true_and, and_true, and_self, IsInt_lit, IsBool_lit, IsStr_lit, Bool.not_eq_true', Bool.not_eq_false', Bool.not_true, Bool.not_false, Int.reduceLE, Int.reduceLT, Int.reduceNeg, Nat.le_refl, Int.le_refl, Nat.reduceLT, Nat.reduceLeDiff, Nat.reduceEqDiff, D.v.injEq, D.tup.injEq, D.agg.injEq, D.ro.injEq, List.cons.injEq, Value.int.injEq, Value.bool.injEq, pcond_true, pcond_false, NamelessL, Nameless, Nat.reduceMul, Nat.reduceAdd, Nat.zero_add, Int.toNat_natCast, unu_u32s] at *
  obtain ⟨hl, gx⟩ := hpre
  obtain ⟨⟨hx, hr, lr⟩, hb⟩ := hJ
  obtain ⟨⟨n1, n2⟩, n3⟩ := newton hx hr hb
  have l1 := dg_len_mono (Nat.div_le_self (nv xs) x)
  rw [← gx] at l1
  have l2 := add_len x (nv xs / x)
  have l3 := dg_len_mono (Nat.div_le_self (x + nv xs / x) 2)
  simp only [nv_dg]
  generalize hn : (x + nv xs / x) / 2 = n at *
  have hc : decide (0 ≤ cmpL (dg n) (dg x)) = decide (x ≤ n) := by
    rw [cmpL_dg]; unfold cmpN
    rw [decide_eq_decide]
    constructor
    · intro h; refine Nat.le_of_not_lt fun hlt => ?_; rw [if_pos hlt] at h; omega
    · intro h; rw [if_neg (by omega)]; split <;> omega
  rw [hc]
  refine ⟨⟨⟨⟨by omega, by omega⟩, gx, by rw [nv_dg]⟩, by rw [nv_dg]; exact hr⟩, ⟨by omega, by omega, dg_dig _, dg_dig _⟩, ⟨by omega, dg_dig _⟩, by omega, pcond_intro (fun h => .inr ⟨x, [], ⟨n3 (by simpa using h), hb⟩, ?_⟩) (fun h => ⟨n, [], by simpa using h, ⟨⟨hx, n1, ?_⟩, n2⟩, ?_⟩)⟩
  · refine of_eq (B := letI z0 := (D.ro (List.length (dg x)) (u32s (dg x))); letI z1 := ([] : List (Option Blk)); ((Bool.true = Bool.true) ∧ ((z1 = z1) ∧ ((True ∧ (z0 = z0)) ∧ True)))) (by kernel_rfl) ?_
    simp
  · exact Nat.le_trans (dg_len_mono (Nat.le_of_lt (by simpa using h))) lr
  · refine of_eq (B := letI z0 := (D.ro (List.length (dg n)) (u32s (dg n))); letI z1 := (D.ro (List.length xs) (u32s xs)); letI z2 := ([] : List (Option Blk)); ((Bool.true = Bool.true) ∧ ((z2 = z2) ∧ ((True ∧ (z1 = z1)) ∧ ((True ∧ (z0 = z0)) ∧ True))))) (by kernel_rfl) ?_
    simp
theorem nv_lt_bl' {us : List Nat} (hd : Dig us) (h0 : 0 < us.length) : nv us < 2 ^ (32 * (us.length - 1) + bl (us.getD (us.length - 1) 0)) := by
  have h1 := nv_take_succ us (us.length - 1) (by omega)
  rw [show us.length - 1 + 1 = us.length by omega, List.take_length] at h1
  have h2 := nv_lt (hd.take (us.length - 1))
  rw [show (us.take (us.length - 1)).length = us.length - 1 by simp] at h2
  have h3 := bl_lt (us.getD (us.length - 1) 0)
  have h4 : 2 ^ (32 * (us.length - 1)) = 4294967296 ^ (us.length - 1) := by rw [Nat.pow_mul]
  rw [Nat.pow_add, h4, h1]
  have h5 := Nat.mul_le_mul_left (4294967296 ^ (us.length - 1)) (show us.getD (us.length - 1) 0 + 1 ≤ 2 ^ bl (us.getD (us.length - 1) 0) from h3)
  rw [Nat.mul_add, Nat.mul_one, Nat.mul_comm _ (us.getD _ _)] at h5
  omega
theorem nv_repl0 : ∀ n, nv (List.replicate n 0) = 0
  | 0 => rfl
  | n + 1 => by rw [List.replicate_succ, nv, nv_repl0 n]
theorem pow_list (b : Nat) : nv ((List.replicate (b / 32 + 1) 0).set (b / 32) (2 ^ (b % 32))) = 2 ^ b ∧ (List.replicate (b / 32 + 1) 0).set (b / 32) (2 ^ (b % 32)) = dg (2 ^ b) := by
  have hlt : 2 ^ (b % 32) < 4294967296 := by
    have := Nat.pow_lt_pow_right (show 1 < 2 by decide) (show b % 32 < 32 by omega)
    exact this
  have e : nv ((List.replicate (b / 32 + 1) 0).set (b / 32) (2 ^ (b % 32))) = 2 ^ b := by
    have := nv_put (List.replicate (b / 32 + 1) 0) (b / 32) (2 ^ (b % 32)) (by simp)
    rw [show (List.replicate (b / 32 + 1) 0).getD (b / 32) 0 = 0 by simp [List.getD_eq_getElem?_getD, List.getElem?_replicate], show nv (List.replicate (b / 32 + 1) 0) = 0 from nv_repl0 _] at this
    rw [Nat.zero_mul, Nat.add_zero, Nat.zero_add] at this
    rw [this, show (4294967296 : Nat) = 2 ^ 32 by rfl, ← Nat.pow_mul, ← Nat.pow_add]
    congr 1; omega
  refine ⟨e, ?_⟩
  rw [← e]
  refine (canon_dg ⟨?_, .inr ?_⟩).symm
  · intro y hy
    rcases List.mem_or_eq_of_mem_set hy with h | h
    · rw [List.eq_of_mem_replicate h]; decide
    · rw [h]; exact hlt
  · rw [List.length_set, List.length_replicate, Nat.add_sub_cancel]
    simp [List.getD_eq_getElem?_getD]
theorem iroot_pure (xs : List Nat) (hpre : rHyp xs) : PureJ Try.prog 63 [.ro xs.length (u32s xs)] (.ro (dg (sq (nv xs))).length (u32s (dg (sq (nv xs))))) := by
  refine pureJ_of_vcpN (call := (addPure 107 ent_ilength noCalls)) (lp := fun k => bif Nat.beq k 6 then some (lp_rootLoop xs) else none) (N := 10) T_ok mixed (addPure_ok ent_ilength_ok noCalls_ok) Try.func63 rfl (by decide) (by kernel_rfl) (by kernel_rfl) (of_eq (B := LRuleP Try.prog Try.f63.ntmps (loopAt ((Try.f63.body).getD .skip) 6) (lp_rootLoop xs) ∧ True) (by kernel_rfl) ⟨rootLoop_rule xs hpre, trivial⟩) (by first | trivial | (simp only [NamelessL, Nameless, and_self, and_true, true_and]; done) | (simp [NamelessL, Nameless, u32s_nameless, namelessL_ints]; done)) (by first | trivial | (simp only [NamelessL, Nameless, and_self, and_true, true_and]; done) | (simp [NamelessL, Nameless, u32s_nameless, namelessL_ints]; done)) ?_
  refine of_eq (B := letI z12 := (unu (u32s xs)); letI z5 := (List.length z12); letI z0 := (IntKind.wrap IntKind.i64 (Int.tdiv (IntKind.wrap IntKind.i64 ((((((32 : Nat) * (z5 - (1 : Nat))) + (bl (List.getD z12 (z5 - (1 : Nat)) (0 : Nat)))) : Nat) : Int) + (1 : Int))) (2 : Int))); letI z4 := (IntKind.wrap IntKind.i64 (Int.tdiv z0 (32 : Int))); letI z1 := (IntKind.wrap IntKind.i64 (z4 + (1 : Int))); letI z7 := List.length xs; letI z2 := ((2 : Nat) ^ (((((32 : Nat) * (z7 - (1 : Nat))) + (bl (List.getD xs (z7 - (1 : Nat)) (0 : Nat)))) + (1 : Nat)) / (2 : Nat))); letI z10 := Int.toNat z1; letI z6 := (List.replicate z10 (D.v (Value.int IntKind.u32 (0 : Int)))); letI z11 := ((0 : Nat) + ((Int.toNat z4) * (1 : Nat))); letI z13 := (Int.tmod z0 (32 : Int)); letI z3 := (List.set z6 z11 (D.v (Value.int IntKind.u32 (IntKind.wrap IntKind.u32 ((1 : Int) * ((2 : Int) ^ (Min.min (Int.toNat z13) (32 : Nat)))))))); letI z8 := (D.ro (List.length (dg (sq (nv xs)))) (u32s (dg (sq (nv xs))))); letI z9 := ((32 : Int) ≠ (0 : Int)); letI z14 := ([] : List (Option Blk)); letI z15 := (List.length (dg z2)); letI z16 := (D.ro z7 (u32s xs)); (True ∧ (True ∧ (True ∧ (True ∧ (pcond (((z7 : Nat) : Int) == (0 : Int)) (True ∧ (True ∧ (True ∧ ((D.ro (0 : Nat) ([] : List D)) = z8)))) (True ∧ (((((u32s xs) = (u32s z12)) ∧ (z7 = z5)) ∧ (((0 : Nat) < z5) ∧ ((z5 ≤ (1000000 : Nat)) ∧ (Dig z12)))) ∧ (True ∧ (((2 : Int) ≠ (0 : Int)) ∧ (True ∧ (True ∧ (z9 ∧ (True ∧ ((((0 : Int) ≤ z1) ∧ ((z1 ≤ z1) ∧ ((((4 : Int) * z1) ≤ (281474976710656 : Int)) ∧ (z1 ≤ (9223372036854775807 : Int))))) ∧ (True ∧ (True ∧ (True ∧ (z9 ∧ (True ∧ (z9 ∧ (((0 : Int) ≤ z13) ∧ ((((0 : Int) ≤ z4) ∧ (z4 < ((z10 : Nat) : Int))) ∧ ((((1 : Nat) = (1 : Nat)) ∧ ((z11 + (1 : Nat)) ≤ (List.length z6))) ∧ (((((0 : Nat) < (nv xs)) ∧ (((0 : Nat) < z2) ∧ (z15 ≤ (40000 : Nat)))) ∧ ((nv xs) < ((z2 + (1 : Nat)) * (z2 + (1 : Nat))))) ∧ (((Bool.true = Bool.true) ∧ ((z14 = z14) ∧ ((True ∧ (z16 = z16)) ∧ ((((NamelessL z3) ∧ (((0 : Nat) < (1 : Nat)) ∧ (((0 : Nat) + (z10 * (1 : Nat))) ≤ (List.length z3)))) ∧ ((D.ro z10 (List.take (z10 * (1 : Nat)) (List.drop (0 : Nat) z3))) = (D.ro z15 (u32s (dg z2))))) ∧ True)))) ∧ ((Unit → (False → False)) ∧ (∀ (r : Nat), ((((r * r) ≤ (nv xs)) ∧ ((nv xs) < ((r + (1 : Nat)) * (r + (1 : Nat))))) → (True ∧ (True ∧ ((D.ro (List.length (dg r)) (u32s (dg r))) = z8)))))))))))))))))))))))))))))))) (by kernel_rfl) ?_
  simp only [true_and, and_true, and_self, IsInt_lit, IsBool_lit, IsStr_lit, Bool.not_eq_true', Bool.not_eq_false', Bool.not_true, Bool.not_false, Int.reduceLE, Int.reduceLT, Int.reduceNeg, Nat.le_refl, Int.le_refl, Nat.reduceLT, Nat.reduceLeDiff, Nat.reduceEqDiff, D.v.injEq, D.tup.injEq, D.agg.injEq, D.ro.injEq, List.cons.injEq, Value.int.injEq, Value.bool.injEq, pcond_true, pcond_false, NamelessL, Nameless, Nat.reduceMul, Nat.reduceAdd, Nat.zero_add, Int.toNat_natCast, unu_u32s]
  obtain ⟨hl, gx⟩ := hpre
  have dx : Dig xs := by rw [gx]; exact dg_dig _
  refine pcond_intro (fun h => ?_) (fun h => ?_)
  · have h0 : xs = [] := List.eq_nil_of_length_eq_zero (by simp at h; simp [h])
    subst h0
    have : sq (nv []) = 0 := (sq_eq (by decide) (by decide)).symm
    rw [this, dg_zero]
    exact ⟨rfl, rfl⟩
  · have h0 : 0 < xs.length := by
      have : (xs.length : Int) ≠ 0 := by simpa using h
      omega
    have hx : 0 < nv xs := by
      rcases Nat.eq_zero_or_pos (nv xs) with h1 | h1
      · rw [h1, dg_zero] at gx; rw [gx] at h0; simp at h0
      · exact h1
    have hlt := nv_lt_bl' dx h0
    have b32 := bl32 (dx.get (xs.length - 1))
    generalize hL : 32 * (xs.length - 1) + bl (xs.getD (xs.length - 1) 0) = L at *
    have w1 : IntKind.i64.wrap ((L : Int) + 1) = ((L + 1 : Nat) : Int) := by rw [wrap_i64_of (by omega) (by omega)]; omega
    have w2 : IntKind.i64.wrap (((L + 1 : Nat) : Int).tdiv 2) = (((L + 1) / 2 : Nat) : Int) := by
      rw [Int.tdiv_eq_ediv_of_nonneg (by omega), wrap_i64_of (by omega) (by omega)]; omega
    rw [w1, w2]
    generalize hb : (L + 1) / 2 = b at *
    have w3 : IntKind.i64.wrap ((b : Int).tdiv 32) = ((b / 32 : Nat) : Int) := by
      rw [Int.tdiv_eq_ediv_of_nonneg (by omega), wrap_i64_of (by omega) (by omega)]; omega
    have w4 : (b : Int).tmod 32 = ((b % 32 : Nat) : Int) := by rw [Int.tmod_eq_emod_of_nonneg (by omega)]; omega
    have w5 : IntKind.i64.wrap (((b / 32 : Nat) : Int) + 1) = ((b / 32 + 1 : Nat) : Int) := by rw [wrap_i64_of (by omega) (by omega)]; omega
    have hp : 2 ^ (b % 32) < 4294967296 := Nat.pow_lt_pow_right (show 1 < 2 by decide) (show b % 32 < 32 by omega)
    have w6 : IntKind.u32.wrap (1 * 2 ^ min (b % 32) 32) = ((2 ^ (b % 32) : Nat) : Int) := by
      rw [show min (b % 32) 32 = b % 32 by omega, Int.one_mul]
      have : (2 : Int) ^ (b % 32) = ((2 ^ (b % 32) : Nat) : Int) := by simp
      rw [this]
      clear this
      generalize 2 ^ (b % 32) = P at *
      exact wrap_u32_of (by omega) (by omega)
    have e0 : List.replicate (b / 32 + 1) (D.v (Value.int IntKind.u32 0)) = u32s (List.replicate (b / 32 + 1) 0) := u32s_replicate _ 0
    obtain ⟨p1, p2⟩ := pow_list b
    have hlen : (dg (2 ^ b)).length = b / 32 + 1 := by rw [← p2]; simp
    simp only [w3, w4, w5, Int.toNat_natCast, Nat.mul_one, w6, e0, u32s_put, p2, u32s_length, hlen, List.length_replicate]
    have hk : List.take (b / 32 + 1) (List.drop 0 (u32s (dg (2 ^ b)))) = u32s (dg (2 ^ b)) := by
      rw [List.drop_zero]; exact List.take_of_length_le (by simp [u32s_length, hlen])
    have hsq : nv xs < (2 ^ b + 1) * (2 ^ b + 1) := by
      have h3 := Nat.pow_le_pow_right (show 0 < 2 by decide) (show L ≤ b + b by omega)
      rw [Nat.pow_add] at h3
      have h4 : 2 ^ b * 2 ^ b ≤ (2 ^ b + 1) * (2 ^ b + 1) := Nat.mul_le_mul (by omega) (by omega)
      omega
    refine ⟨⟨h0, by omega, dx⟩, by omega, by omega, ⟨by omega, by omega, by omega⟩, by omega, by omega, by omega, ⟨by omega, by omega⟩, Nat.le_refl _, ⟨⟨hx, Nat.pow_pos (by decide), by omega⟩, hsq⟩, ⟨⟨u32s_nameless _, Nat.le_refl _⟩, trivial, hk⟩, fun _ h => h, fun r hr => ?_⟩
    rw [sq_eq hr.1 hr.2]
    exact ⟨rfl, rfl⟩
noncomputable def ent_iroot : Ent := fun ds => match ds with
  | [.ro n_xs ys_xs] => some (.ro (dg (sq (nv (unu ys_xs)))).length (u32s (dg (sq (nv (unu ys_xs))))), (ys_xs = u32s (unu ys_xs) ∧ n_xs = (unu ys_xs).length) ∧ rHyp (unu ys_xs))
  | _ => none
theorem ent_iroot_ok : EntOk Try.prog 63 ent_iroot := by
  intro ds d c h hc; unfold ent_iroot at h; split at h
  · rename_i n_xs ys_xs; obtain ⟨rfl, rfl⟩ := pair_inj h
    obtain ⟨⟨h1, h2⟩, hc⟩ := hc; subst h2; generalize (unu ys_xs) = xs at *; subst h1
    exact iroot_pure xs hc
  · cases h
theorem sq_le (x : Nat) : sq x ≤ x := by
  obtain ⟨h, _⟩ := sq_spec x
  rcases Nat.eq_zero_or_pos (sq x) with h0 | h0
  · omega
  · have := Nat.mul_le_mul_left (sq x) (show 1 ≤ sq x from h0)
    omega
theorem hRoot_pure (xn : Bool) (xs : List Nat) (hpre : LenOk xs) : PureJ Try.prog 19 [.agg [.v (.bool xn), .ro xs.length (u32s xs)]] (d_ie (gcS (validL xn xs && !xn) (sq (nv xs)))) := by
  refine pureJ_of_vcpN (call := (addPure 33 ent_iValid (addPure 63 ent_iroot (addPure 54 ent_isigned noCalls)))) (lp := fun _ => none) (N := 10) T_ok mixed (addPure_ok ent_iValid_ok (addPure_ok ent_iroot_ok (addPure_ok ent_isigned_ok noCalls_ok))) Try.func19 rfl (by decide) (by kernel_rfl) (by kernel_rfl) (LpAllP.none _) (by (simp [NamelessL, Nameless, d_ie, d_int, u32s_nameless]; done)) (by (simp [NamelessL, Nameless, d_ie, d_int, u32s_nameless]; done)) ?_
  refine of_eq (B := letI z3 := (gcS ((validL xn xs) && (!xn)) (sq (nv xs))); letI z10 := (Prod.snd (Prod.fst z3)); letI z0 := (D.tup [(D.agg [(D.v (Value.bool (Prod.fst (Prod.fst z3)))), (D.ro (List.length z10) (u32s z10))]), (D.v (Value.int IntKind.i64 (Prod.snd z3)))]); letI z5 := ((2 : Nat) ≤ (2 : Nat)); letI z8 := (((2 : Nat) = (2 : Nat)) ∧ z5); letI z7 := ((True ∧ (True ∧ True)) ∧ (True ∧ True)); letI z1 := (True ∧ (z8 ∧ (True ∧ ((z5 ∧ True) ∧ (z7 ∧ ((D.tup [(D.agg [(D.v (Value.bool Bool.false)), (D.ro (0 : Nat) ([] : List D))]), (D.v (Value.int IntKind.i64 (1 : Int)))]) = z0)))))); letI z4 := (unu (u32s xs)); letI z9 := (dg (sq (nv z4))); letI z2 := (unu (u32s z9)); letI z6 := (((u32s xs) = (u32s z4)) ∧ ((List.length xs) = (List.length z4))); (True ∧ (True ∧ (True ∧ (z5 ∧ ((z6 ∧ ((List.length z4) ≤ (1000000000000 : Nat))) ∧ (True ∧ (True ∧ (pcond (!(validL xn z4)) (True ∧ z1) (True ∧ ((((0 : Nat) < (2 : Nat)) ∧ (IsBool (D.v (Value.bool xn)))) ∧ (True ∧ (pcond xn z1 (True ∧ (((1 : Nat) < (2 : Nat)) ∧ ((z6 ∧ (rHyp z4)) ∧ (((((u32s z9) = (u32s z2)) ∧ ((List.length z9) = (List.length z2))) ∧ ((List.length z2) ≤ (1000000 : Nat))) ∧ (True ∧ (True ∧ (z8 ∧ (True ∧ ((z5 ∧ True) ∧ (z7 ∧ ((D.tup [(D.agg [(D.v (Value.bool (sigN Bool.false z2))), (D.ro (List.length (sigL z2)) (u32s (sigL z2)))]), (D.v (Value.int IntKind.i64 (sigE z2)))]) = z0)))))))))))))))))))))))) (by kernel_rfl) ?_
  simp only [true_and, and_true, and_self, IsInt_lit, IsBool_lit, IsStr_lit, Bool.not_eq_true', Bool.not_eq_false', Bool.not_true, Bool.not_false, Int.reduceLE, Int.reduceLT, Int.reduceNeg, Nat.le_refl, Int.le_refl, Nat.reduceLT, Nat.reduceLeDiff, Nat.reduceEqDiff, D.v.injEq, D.tup.injEq, D.agg.injEq, D.ro.injEq, List.cons.injEq, Value.int.injEq, Value.bool.injEq, pcond_true, pcond_false, NamelessL, Nameless, Nat.reduceMul, Nat.reduceAdd, Nat.zero_add, Int.toNat_natCast, unu_u32s]
  obtain ⟨lx, dx⟩ := hpre
  refine ⟨by omega, pcond_intro (fun h => ?_) (fun h => pcond_intro (fun h2 => ?_) (fun h2 => ?_))⟩
  · simp only [Bool.not_eq_true'] at h; simp [gcS, h, u32s]
  · simp [gcS, h2, u32s]
  · simp only [Bool.not_eq_false'] at h
    obtain ⟨gx, lx4⟩ := valid_good dx h
    have lg : (dg (sq (nv xs))).length ≤ 400 := Nat.le_trans (dg_len_mono (sq_le _)) (by rw [← gx.1]; exact lx4)
    obtain ⟨s1, s2, s3⟩ := sig_nat lg
    rw [s1, s2, s3, h, h2]
    exact ⟨⟨by omega, gx.1⟩, by omega, ⟨rfl, rfl, rfl⟩, rfl⟩
noncomputable def ent_hRoot : Ent := fun ds => match ds with
  | [.agg [.v (.bool xn), .ro n_xs ys_xs]] => some (d_ie (gcS (validL xn (unu ys_xs) && !xn) (sq (nv (unu ys_xs)))), (ys_xs = u32s (unu ys_xs) ∧ n_xs = (unu ys_xs).length) ∧ LenOk (unu ys_xs))
  | _ => none
theorem ent_hRoot_ok : EntOk Try.prog 19 ent_hRoot := by
  intro ds d c h hc; unfold ent_hRoot at h; split at h
  · rename_i xn n_xs ys_xs; obtain ⟨rfl, rfl⟩ := pair_inj h
    obtain ⟨⟨h1, h2⟩, hc⟩ := hc; subst h2; generalize (unu ys_xs) = xs at *; subst h1
    exact hRoot_pure _ xs hc
  · cases h
end Go.Proofs.Ythnhfkpihbjddaa
end
