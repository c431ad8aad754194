import Derived.Test.YthnhfkpihbjddaaZKv7
import Derived.Test.YthnhfkpihbjddaaZKv8
import Derived.Test.YthnhfkpihbjddaaZKv10
section
namespace Go.Proofs.Ythnhfkpihbjddaa
open Go.VD
set_option linter.unusedVariables false
set_option linter.unusedSimpArgs false
set_option maxRecDepth 100000
def d_at (off n : Nat) : D := .sl 0 off n (.exact n 1)
def d_blk2 (o : List Nat) : Heap := [some ⟨41, u32s o, true⟩]
def lp_addTimes (off : Nat) (zs ys : List Nat) (k : Nat) : LoopO := loopRuleD (α := Nat) (β := Unit) (fun i => i ≤ ys.length)
  (fun i => [(0, d_at off ys.length), (1, .ro ys.length (u32s ys)), (2, .v (.int .u32 (k : Int))), (7, .v (.int .u64 (carT off zs ys k i : Nat))), (11, .ro ys.length (u32s ys)), (12, .v (.int .i64 (ys.length : Int))), (13, .v (.int .i64 (i : Int)))])
  (fun i => d_blk2 (addT off zs ys k i)) 0 (fun _ => True) (fun _ => (.exit 0, [(7, .v (.int .u64 (carT off zs ys k ys.length : Nat)))], d_blk2 (addT off zs ys k ys.length)))
theorem addTimes_rule (off : Nat) (zs ys : List Nat) (k : Nat) (hpre : (off + ys.length ≤ zs.length ∧ zs.length ≤ 1000000) ∧ (Dig zs ∧ Dig ys) ∧ k < 4294967296) : LRule Try.prog Try.f109.ntmps (loopAt ((Try.f109.body).getD .skip) 3) (lp_addTimes off zs ys k) := by
  refine lruleD_of (α := Nat) (β := Unit) (call := noCalls) (lp := fun _ => none) (N := 10) T_ok mixed noCalls_ok (fun i => ys.length - i) (by kernel_rfl) (LpAll.none _) ?_
  intro i hJ
  refine of_eq (B := letI z9 := ((i : Nat) : Int); letI z1 := ((Int.toNat z9) * (1 : Nat)); letI z11 := (List.getD (u32s ys) z1 (Inhabited.default)); letI z4 := (u32s (addT off zs ys k i)); letI z10 := (List.getD z4 (off + z1) (Inhabited.default)); letI z12 := (((carT off zs ys k i) : Nat) : Int); letI z0 := (IntKind.wrap IntKind.u64 ((IntKind.wrap IntKind.u64 ((IntKind.wrap IntKind.u64 ((IntKind.wrap IntKind.u64 (cellInt z11)) * (IntKind.wrap IntKind.u64 ((k : Nat) : Int)))) + (IntKind.wrap IntKind.u64 (cellInt z10)))) + z12)); letI z2 := List.length ys; letI z13 := ((z2 : Nat) : Int); letI z3 := (((0 : Int) ≤ z9) ∧ (z9 < z13)); letI z5 := (Option.some (D.ro z2 (u32s ys))); letI z6 := (Option.some (D.sl (0 : Nat) off z2 (Cap.exact z2 (1 : Nat)))); letI z7 := (Option.some (D.v (Value.int IntKind.i64 z13))); letI z8 := (Option.some (D.v (Value.int IntKind.u32 ((k : Nat) : Int)))); letI z14 := (Exit.exit (0 : Nat)); (True ∧ (pcond (Decidable.decide (z9 < z13)) (True ∧ (z3 ∧ (((z1 < (List.length (u32s ys))) ∧ (IsInt IntKind.u32 z11)) ∧ (True ∧ (True ∧ (True ∧ (True ∧ (True ∧ (True ∧ (True ∧ (True ∧ (True ∧ (z3 ∧ ((((off + z1) < (List.length z4)) ∧ (IsInt IntKind.u32 z10)) ∧ (True ∧ (True ∧ (True ∧ (True ∧ (True ∧ (True ∧ (True ∧ (True ∧ (True ∧ (True ∧ (((0 : Int) ≤ (32 : Int)) ∧ (z3 ∧ ((((1 : Nat) = (1 : Nat)) ∧ (((off + z1) + (1 : Nat)) ≤ (List.length z4))) ∧ (True ∧ (True ∧ (True ∧ (∃ (y : Nat), (((z2 - y) < (z2 - i)) ∧ ((y ≤ z2) ∧ (((z6 = z6) ∧ ((z5 = z5) ∧ ((z8 = z8) ∧ (((Option.some (D.v (Value.int IntKind.u64 (Int.fdiv z0 (4294967296 : Int))))) = (Option.some (D.v (Value.int IntKind.u64 (((carT off zs ys k y) : Nat) : Int))))) ∧ ((z5 = z5) ∧ ((z7 = z7) ∧ (((Option.some (D.v (Value.int IntKind.i64 (IntKind.wrap IntKind.i64 (z9 + (1 : Int)))))) = (Option.some (D.v (Value.int IntKind.i64 ((y : Nat) : Int))))) ∧ True))))))) ∧ ([(Option.some (Blk.mk (41 : Nat) (List.set z4 (off + z1) (D.v (Value.int IntKind.u32 (IntKind.wrap IntKind.u32 z0)))) Bool.true))] = [(Option.some (Blk.mk (41 : Nat) (u32s (addT off zs ys k y)) Bool.true))]))))))))))))))))))))))))))))))))))) (∃ (r : Unit), (True ∧ ((z14 = z14) ∧ ((((Option.some (D.v (Value.int IntKind.u64 z12))) = (Option.some (D.v (Value.int IntKind.u64 (((carT off zs ys k z2) : Nat) : Int))))) ∧ True) ∧ ([(Option.some (Blk.mk (41 : Nat) z4 Bool.true))] = [(Option.some (Blk.mk (41 : Nat) (u32s (addT off zs ys k z2)) Bool.true))])))))))) (by kernel_rfl) ?_
  simp only [true_and, and_true, and_self, IsInt_lit, IsBool_lit, IsStr_lit, Bool.not_eq_true', Bool.not_eq_false', Bool.not_true, Bool.not_false, Int.reduceLE, Int.reduceLT, Int.reduceNeg, Nat.le_refl, Int.le_refl, Nat.reduceLT, Nat.reduceLeDiff, Nat.reduceEqDiff, D.v.injEq, D.tup.injEq, D.agg.injEq, D.ro.injEq, List.cons.injEq, Value.int.injEq, Value.bool.injEq, pcond_true, pcond_false, NamelessL, Nameless, Nat.reduceMul, Nat.reduceAdd, Nat.zero_add, Int.toNat_natCast]
  obtain ⟨⟨hl, hb⟩, ⟨hz, hy⟩, hk⟩ := hpre
  refine pcond_intro (fun h => ?_) (fun h => ?_)
  · simp only [decide_eq_true_eq] at h
    have h : i < ys.length := by omega
    have g := addT_get (ys := ys) (k := k) (show off + i < zs.length by omega)
    have hlen := addT_length (ys := ys) (k := k) (show off + i ≤ zs.length by omega)
    have ht := tstep (hy.get i) hk (hz.get (off + i)) (carT_lt (k := k) hz hy hk (show off + i ≤ zs.length by omega) hJ)
    have hs := addT_set (k := k) (show off + i < zs.length by omega) h
    have hc := carT_succ (k := k) (show off + i < zs.length by omega) h
    simp only [Nat.mul_one, u32s_cell, u32s_length, hlen, g, ht, u32s_isInt ys i h, u32s_isInt (addT off zs ys k i) (off + i) (by omega), and_true]
    generalize ys.getD i 0 * k + zs.getD (off + i) 0 + carT off zs ys k i = t at *
    have e1 : (t : Int).fdiv 4294967296 = ((t / 4294967296 : Nat) : Int) := by rw [Int.fdiv_eq_ediv_of_nonneg _ (by omega)]; omega
    have e2 : IntKind.u32.wrap (t : Int) = ((t % 4294967296 : Nat) : Int) := by rw [wrap_u32]; omega
    refine ⟨⟨by omega, by omega⟩, by omega, ⟨by omega, by omega⟩, by omega, ⟨by omega, by omega⟩, by omega, i + 1, by omega, by omega, ⟨?_, ?_⟩, ?_⟩
    · rw [e1, hc]
    · rw [wrap_i64_of (by omega) (by omega)]; simp
    · rw [e2, u32s_put, hs]
  · simp only [decide_eq_false_iff_not] at h
    have h : i = ys.length := by omega
    subst h
    exact ⟨(), rfl, rfl⟩
theorem addTimes_mut (off : Nat) (zs ys : List Nat) (k : Nat) (hpre : (off + ys.length ≤ zs.length ∧ zs.length ≤ 1000000) ∧ (Dig zs ∧ Dig ys) ∧ k < 4294967296) : MutJ Try.prog 109 off ys.length (.exact ys.length 1) [.ro ys.length (u32s ys), .v (.int .u32 (k : Int))] ⟨41, u32s zs, true⟩ (.v (.int .u32 (carT off zs ys k ys.length : Nat))) ⟨41, u32s (addT off zs ys k ys.length), true⟩ := by
  refine mutJ_of_vcx (call := noCalls) (lp := fun k' => bif Nat.beq k' 3 then some (lp_addTimes off zs ys k) else none) (N := 10) T_ok mixed noCalls_ok Try.func109 rfl (by decide) (by kernel_rfl) (by kernel_rfl)
    (of_eq (B := LRule Try.prog Try.f109.ntmps (loopAt ((Try.f109.body).getD .skip) 3) (lp_addTimes off zs ys k) ∧ True) (by kernel_rfl) ⟨addTimes_rule off zs ys k hpre, trivial⟩) (by simp [NamelessL, Nameless, u32s_nameless]) (by simp [Nameless]) (u32s_nameless _) (u32s_nameless _) ?_
  refine of_eq (B := letI z0 := List.length ys; letI z1 := (Option.some (D.ro z0 (u32s ys))); letI z2 := (Option.some (Blk.mk (41 : Nat) (u32s (addT off zs ys k z0)) Bool.true)); letI z3 := (Option.some (D.sl (0 : Nat) off z0 (Cap.exact z0 (1 : Nat)))); letI z4 := (Option.some (D.v (Value.int IntKind.i64 ((z0 : Nat) : Int)))); letI z5 := (Option.some (D.v (Value.int IntKind.u32 ((k : Nat) : Int)))); letI z6 := (Option.some (D.v (Value.int IntKind.i64 (0 : Int)))); letI z7 := (((carT off zs ys k z0) : Nat) : Int); (True ∧ (True ∧ (True ∧ (True ∧ (True ∧ (((0 : Nat) ≤ z0) ∧ (((z3 = z3) ∧ ((z1 = z1) ∧ ((z5 = z5) ∧ (((Option.some (D.v (Value.int IntKind.u64 (0 : Int)))) = (Option.some (D.v (Value.int IntKind.u64 (((carT off zs ys k (0 : Nat)) : Nat) : Int))))) ∧ ((z1 = z1) ∧ ((z4 = z4) ∧ ((z6 = z6) ∧ True))))))) ∧ (([(Option.some (Blk.mk (41 : Nat) (u32s zs) Bool.true))] = [(Option.some (Blk.mk (41 : Nat) (u32s (addT off zs ys k (0 : Nat))) Bool.true))]) ∧ (Unit → (True → (True ∧ (True ∧ (True ∧ (True ∧ (((D.v (Value.int IntKind.u32 (IntKind.wrap IntKind.u32 z7))) = (D.v (Value.int IntKind.u32 z7))) ∧ ([z2] = [z2]))))))))))))))))) (by kernel_rfl) ?_
  simp only [true_and, and_true, and_self, IsInt_lit, IsBool_lit, IsStr_lit, Bool.not_eq_true', Bool.not_eq_false', Bool.not_true, Bool.not_false, Int.reduceLE, Int.reduceLT, Int.reduceNeg, Nat.le_refl, Int.le_refl, Nat.reduceLT, Nat.reduceLeDiff, Nat.reduceEqDiff, D.v.injEq, D.tup.injEq, D.agg.injEq, D.ro.injEq, List.cons.injEq, Value.int.injEq, Value.bool.injEq, pcond_true, pcond_false, NamelessL, Nameless, Nat.reduceMul, Nat.reduceAdd, Nat.zero_add, Int.toNat_natCast]
  obtain ⟨e1, e2⟩ := addT_nil off zs ys k
  obtain ⟨⟨hl, hb⟩, ⟨hz, hy⟩, hk⟩ := hpre
  have hc := carT_lt (k := k) hz hy hk hl (Nat.le_refl _)
  refine ⟨Nat.zero_le _, by rw [e2]; rfl, by rw [e1], fun _ _ => ?_⟩
  rw [wrap_u32]; omega
def entm_addTimes : EntM := fun off n c plain blk => match c, plain, blk with
  | .exact cap 1, [.ro m ys, .v (.int .u32 k)], ⟨ty, cs, full⟩ => some (.v (.int .u32 (carT off (unu cs) (unu ys) k.toNat (unu ys).length : Nat)), ⟨ty, u32s (addT off (unu cs) (unu ys) k.toNat (unu ys).length), full⟩,
      ((ty = 41 ∧ full = true) ∧ (cs = u32s (unu cs) ∧ ys = u32s (unu ys))) ∧ ((cap = n ∧ n = (unu ys).length ∧ m = (unu ys).length) ∧ 0 ≤ k ∧ k < 4294967296) ∧ (off + (unu ys).length ≤ (unu cs).length ∧ (unu cs).length ≤ 1000000) ∧ Dig (unu cs) ∧ Dig (unu ys))
  | _, _, _ => none
theorem entm_addTimes_ok : EntMOk Try.prog 109 entm_addTimes := by
  intro off n c plain blk d blk' p h hp
  unfold entm_addTimes at h
  split at h
  · rename_i cap m ys k ty cs full
    simp only [Option.some.injEq, Prod.mk.injEq] at h
    obtain ⟨rfl, rfl, rfl⟩ := h
    obtain ⟨⟨⟨rfl, rfl⟩, hcs, hys⟩, ⟨⟨rfl, hn, hm⟩, hk0, hk⟩, hl, hz, hy⟩ := hp
    obtain ⟨k, rfl⟩ := Int.eq_ofNat_of_zero_le hk0
    generalize unu cs = zs at *
    generalize unu ys = yl at *
    subst hcs; subst hys; subst hn; subst hm
    simp only [Int.ofNat_eq_natCast, Int.toNat_natCast] at *
    exact addTimes_mut off zs yl k ⟨hl, ⟨hz, hy⟩, by omega⟩
  · cases h
def lp_multLoop (xs ys : List Nat) : LoopO := loopRule (α := Nat × List Nat) (β := List Nat) [some 0] (fun s => (s.1 ≤ xs.length ∧ s.2.length = xs.length + ys.length ∧ Dig s.2) ∧ nv s.2 = nv (xs.take s.1) * nv ys ∧ nv (s.2.drop (s.1 + ys.length)) = 0) (fun s => [(0, .ro xs.length (u32s xs)), (1, .ro ys.length (u32s ys)), (5, d_out (xs.length + ys.length)), (14, .ro xs.length (u32s xs)), (15, .v (.int .i64 (xs.length : Int))), (16, .v (.int .i64 (s.1 : Int)))]) (fun s => d_blk s.2) ((0, List.replicate (xs.length + ys.length) 0)) (fun r => r.length = xs.length + ys.length ∧ Dig r ∧ nv r = nv xs * nv ys) (fun r => (.exit 0, [(5, d_out (xs.length + ys.length))], d_blk r))
theorem multLoop_rule (xs ys : List Nat) (hpre : xs.length ≤ 400000 ∧ ys.length ≤ 400000 ∧ Dig xs ∧ Dig ys) : LRuleP Try.prog Try.f68.ntmps (loopAt ((Try.f68.body).getD .skip) 3) (lp_multLoop xs ys) := by
  refine lrule_of (α := Nat × List Nat) (β := List Nat) (call := (addMut 109 entm_addTimes noCalls)) (lp := fun _ => none) (N := 10) T_ok mixed (addMut_ok entm_addTimes_ok noCalls_ok) (fun s => xs.length - s.1) (by kernel_rfl) (LpAllP.none _) ?_
  intro x hJ
  refine of_eq (B := letI z3 := (((Prod.fst x) : Nat) : Int); letI z12 := List.length ys; letI z0 := (IntKind.wrap IntKind.i64 (z3 + ((z12 : Nat) : Int))); letI z1 := ((Int.toNat z3) * (1 : Nat)); letI z5 := List.length xs; letI z2 := (z5 + z12); letI z4 := (List.getD (u32s xs) z1 (Inhabited.default)); letI z19 := (u32s (Prod.snd x)); letI z6 := (unu z19); letI z15 := (unu (u32s ys)); letI z7 := (List.length z15); letI z23 := ((0 : Nat) + z1); letI z25 := (Int.toNat (cellInt z4)); letI z8 := (u32s (addT z23 z6 z15 z25 z7)); letI z9 := (Prod.mk (5 : Nat) (D.sl (0 : Nat) (0 : Nat) z2 (Cap.toEnd (1 : Nat)))); letI z10 := Int.toNat z0; letI z20 := ((z5 : Nat) : Int); letI z11 := (Prod.mk (15 : Nat) (D.v (Value.int IntKind.i64 z20))); letI z13 := (Prod.mk (5 : Nat) (d_out z2)); letI z14 := (Exit.exit (0 : Nat)); letI z16 := (D.ro z5 (u32s xs)); letI z17 := (z10 - (Int.toNat z3)); letI z18 := (Prod.mk (1 : Nat) (D.ro z12 (u32s ys))); letI z21 := ((0 : Int) ≤ z0); letI z22 := ((0 : Nat) + (z10 * (1 : Nat))); letI z24 := (Prod.mk (14 : Nat) z16); letI z26 := Bool.true = Bool.true; letI z27 := ((1 : Nat) = (1 : Nat)); letI z28 := (Prod.mk (0 : Nat) z16); letI z29 := ((z10 : Nat) : Int); letI z30 := (List (Option Nat)); (True ∧ (pcond (Decidable.decide (z3 < z20)) (True ∧ ((((0 : Int) ≤ z3) ∧ (z3 < z20)) ∧ (((z1 < (List.length (u32s xs))) ∧ (IsInt IntKind.u32 z4)) ∧ (True ∧ (True ∧ (True ∧ (True ∧ (True ∧ (True ∧ (True ∧ (True ∧ (True ∧ (True ∧ (True ∧ (True ∧ (True ∧ (True ∧ (True ∧ (True ∧ (True ∧ ((((((0 : Int) ≤ z3) ∧ (z3 ≤ z29)) ∧ ((z21 ∧ (z0 ≤ z29)) ∧ (z21 ∧ ((z0 ≤ ((z2 : Nat) : Int)) ∧ z26)))) ∧ z27) ∧ (True ∧ (True ∧ ((((((41 : Nat) = (41 : Nat)) ∧ z26) ∧ ((z19 = (u32s z6)) ∧ ((u32s ys) = (u32s z15)))) ∧ ((((z17 = z17) ∧ ((z17 = z7) ∧ (z12 = z7))) ∧ (((0 : Int) ≤ (cellInt z4)) ∧ ((cellInt z4) < (4294967296 : Int)))) ∧ ((((z23 + z7) ≤ (List.length z6)) ∧ ((List.length z6) ≤ (1000000 : Nat))) ∧ ((Dig z6) ∧ (Dig z15))))) ∧ ((z21 ∧ (z0 < ((z2 : Nat) : Int))) ∧ ((z27 ∧ ((z22 + (1 : Nat)) ≤ (List.length z8))) ∧ (True ∧ (True ∧ (∃ (y : (Prod Nat (List Nat))), (∃ (kp : z30), (((z5 - (Prod.fst y)) < (z5 - (Prod.fst x))) ∧ (((((Prod.fst y) ≤ z5) ∧ (((List.length (Prod.snd y)) = z2) ∧ (Dig (Prod.snd y)))) ∧ (((nv (Prod.snd y)) = ((nv (List.take (Prod.fst y) xs)) * (nv ys))) ∧ ((nv (List.drop ((Prod.fst y) + z12) (Prod.snd y))) = (0 : Nat)))) ∧ (viewAll kp [z28, z18, z9, z24, z11, (Prod.mk (16 : Nat) (D.v (Value.int IntKind.i64 (IntKind.wrap IntKind.i64 (z3 + (1 : Int))))))] [(Option.some (Blk.mk (41 : Nat) (List.set z8 z22 (D.v (Value.int IntKind.u32 (((carT z23 z6 z15 z25 z7) : Nat) : Int)))) Bool.true))] [z28, z18, z13, z24, z11, (Prod.mk (16 : Nat) (D.v (Value.int IntKind.i64 (((Prod.fst y) : Nat) : Int))))] (d_blk (Prod.snd y))))))))))))))))))))))))))))))))))) (∃ (r : (List Nat)), (∃ (kp : z30), ((((List.length r) = z2) ∧ ((Dig r) ∧ ((nv r) = ((nv xs) * (nv ys))))) ∧ ((z14 = z14) ∧ (viewAll kp [z9] [(Option.some (Blk.mk (41 : Nat) z19 Bool.true))] (Prod.fst (Prod.snd ((fun (r_1 : (List Nat)) => (Prod.mk z14 (Prod.mk [z13] (d_blk r_1)))) r))) (Prod.snd (Prod.snd ((fun (r_1 : (List Nat)) => (Prod.mk z14 (Prod.mk [z13] (d_blk r_1)))) r))))))))))) (by kernel_rfl) ?_
  obtain ⟨hbx, hby, hdx, hdy⟩ := hpre
  obtain ⟨i, o⟩ := x
  obtain ⟨⟨hi, hl, ho⟩, he, hz⟩ := hJ
  simp only at hi hl ho he hz
  have hw : IntKind.i64.wrap ((i : Int) + (ys.length : Int)) = ((i + ys.length : Nat) : Int) := by rw [wrap_i64_of (by omega) (by omega)]; omega
  simp only [true_and, and_true, and_self, IsInt_lit, IsBool_lit, IsStr_lit, Bool.not_eq_true', Bool.not_eq_false', Bool.not_true, Bool.not_false, Int.reduceLE, Int.reduceLT, Int.reduceNeg, Nat.le_refl, Int.le_refl, Nat.reduceLT, Nat.reduceLeDiff, Nat.reduceEqDiff, D.v.injEq, D.tup.injEq, D.agg.injEq, D.ro.injEq, List.cons.injEq, Value.int.injEq, Value.bool.injEq, pcond_true, pcond_false, NamelessL, Nameless, Nat.reduceMul, Nat.reduceAdd, Nat.zero_add, Int.toNat_natCast, hw, Nat.mul_one, u32s_length, u32s_cell, unu_u32s, hl]
  refine pcond_intro (fun h => ?_) (fun h => ?_)
  · simp only [decide_eq_true_eq] at h
    have h : i < xs.length := by omega
    have hk := hdx.get i
    have hval := addT_value (k := xs.getD i 0) ho (show i + ys.length < o.length by omega) hz
    have hlen := addT_length (zs := o) (ys := ys) (k := xs.getD i 0) (i := ys.length) (off := i) (by omega)
    have hc := carT_lt (k := xs.getD i 0) (off := i) ho hdy hk (by omega) (Nat.le_refl _)
    have hdr := addT_drop (zs := o) (ys := ys) (k := xs.getD i 0) (i := ys.length) (off := i) (by omega) 1
    have hq := nv_take_succ xs i h
    have hw3 : IntKind.i64.wrap ((i : Int) + 1) = ((i + 1 : Nat) : Int) := by rw [wrap_i64_of (by omega) (by omega)]; omega
    rw [nv_drop_succ] at hz
    simp only [hw3, u32s_put, u32s_isInt xs i h, and_true]
    have hrd := addT_dig (off := i) (ys := ys) (k := xs.getD i 0) (i := ys.length) ho
    generalize carT i o ys (xs.getD i 0) ys.length = c at *
    generalize addT i o ys (xs.getD i 0) ys.length = r at *
    refine ⟨⟨by omega, by omega⟩, h, ⟨⟨by omega, by omega⟩, by omega, by omega, by omega⟩, ⟨⟨by omega, by omega, by omega⟩, ⟨by omega, by omega⟩, ho, hdy⟩, ⟨by omega, by omega⟩, by omega, (i + 1, r.set (i + ys.length) c), [some 0], by simp only; omega, ⟨⟨by simp only; omega, by simp; omega, ?_⟩, ?_, ?_⟩, ?_⟩
    · exact hrd.put _ hc
    · simp only
      rw [hval, hq, Nat.add_mul, ← he]
    · simp only
      rw [List.drop_set_of_lt (by omega), show i + 1 + ys.length = i + ys.length + 1 by omega, hdr]
      omega
    · refine of_eq (B := letI z0 := List.length xs; letI z4 := List.length ys; letI z7 := (u32s (List.set r (i + z4) c)); letI z1 := (Option.some (Blk.mk (41 : Nat) z7 Bool.true)); letI z2 := (D.sl (0 : Nat) (0 : Nat) (z0 + z4) (Cap.toEnd (1 : Nat))); letI z3 := (D.v (Value.int IntKind.i64 (((i + (1 : Nat)) : Nat) : Int))); letI z10 := (D.ro z0 (u32s xs)); letI z5 := (True ∧ (z10 = z10)); letI z6 := (D.v (Value.int IntKind.i64 ((z0 : Nat) : Int))); letI z8 := ([] : List (Option Blk)); letI z9 := (D.ro z4 (u32s ys)); ((Bool.true = Bool.true) ∧ ((((z1 = z1) ∧ (NamelessL z7)) ∧ (z8 = z8)) ∧ (z5 ∧ ((True ∧ (z9 = z9)) ∧ ((True ∧ (z2 = z2)) ∧ (z5 ∧ ((True ∧ (z6 = z6)) ∧ ((True ∧ (z3 = z3)) ∧ True))))))))) (by kernel_rfl) ?_
      simp [u32s_nameless]
  · simp only [decide_eq_false_iff_not] at h
    have hk2 : i = xs.length := by omega
    subst hk2
    refine ⟨o, [some 0], ⟨hl, ho, by simpa using he⟩, ?_⟩
    refine of_eq (B := letI z0 := (D.sl (0 : Nat) (0 : Nat) ((List.length xs) + (List.length ys)) (Cap.toEnd (1 : Nat))); letI z1 := (Option.some (Blk.mk (41 : Nat) (u32s o) Bool.true)); letI z2 := ([] : List (Option Blk)); ((Bool.true = Bool.true) ∧ ((((z1 = z1) ∧ (NamelessL (u32s o))) ∧ (z2 = z2)) ∧ ((True ∧ (z0 = z0)) ∧ True)))) (by kernel_rfl) ?_
    simp [u32s_nameless]
theorem imultiply_pure (xs ys : List Nat) (hpre : xs.length ≤ 400000 ∧ ys.length ≤ 400000 ∧ Dig xs ∧ Dig ys) : PureJ Try.prog 68 [.ro xs.length (u32s xs), .ro ys.length (u32s ys)] (.ro (dg (nv xs * nv ys)).length (u32s (dg (nv xs * nv ys)))) := by
  refine pureJ_of_vcpN (call := (addPure 89 ent_itrim noCalls)) (lp := fun k => bif Nat.beq k 3 then some (lp_multLoop xs ys) else none) (N := 10) T_ok mixed (addPure_ok ent_itrim_ok noCalls_ok) Try.func68 rfl (by decide) (by kernel_rfl) (by kernel_rfl) (of_eq (B := LRuleP Try.prog Try.f68.ntmps (loopAt ((Try.f68.body).getD .skip) 3) (lp_multLoop xs ys) ∧ True) (by kernel_rfl) ⟨multLoop_rule xs ys hpre, trivial⟩) (by first | trivial | (simp only [NamelessL, Nameless, and_self, and_true, true_and]; done) | (simp [NamelessL, Nameless, u32s_nameless, namelessL_ints]; done)) (by first | trivial | (simp only [NamelessL, Nameless, and_self, and_true, true_and]; done) | (simp [NamelessL, Nameless, u32s_nameless, namelessL_ints]; done)) ?_
  refine of_eq (B := letI z2 := List.length xs; letI z6 := List.length ys; letI z0 := (IntKind.wrap IntKind.i64 (((z2 : Nat) : Int) + ((z6 : Nat) : Int))); letI z1 := (z2 + z6); letI z3 := (List.replicate z1 (0 : Nat)); letI z4 := (z1 * (1 : Nat)); letI z5 := (List.replicate (Int.toNat z0) (D.v (Value.int IntKind.u32 (0 : Int)))); letI z13 := (D.ro z2 (u32s xs)); letI z7 := (True ∧ (z13 = z13)); letI z8 := (D.v (Value.int IntKind.i64 ((z2 : Nat) : Int))); letI z9 := ((nv xs) * (nv ys)); letI z10 := ([] : List (Option Blk)); letI z11 := (Cap.toEnd (1 : Nat)); letI z12 := (D.ro z6 (u32s ys)); (True ∧ (True ∧ (True ∧ (True ∧ (True ∧ (True ∧ ((((0 : Int) ≤ z0) ∧ ((z0 ≤ z0) ∧ ((((4 : Int) * z0) ≤ (281474976710656 : Int)) ∧ (z0 ≤ (9223372036854775807 : Int))))) ∧ (True ∧ (True ∧ (True ∧ (True ∧ (((((0 : Nat) ≤ z2) ∧ (((List.length z3) = z1) ∧ (Dig z3))) ∧ (((nv z3) = ((nv ([] : List Nat)) * (nv ys))) ∧ ((nv (List.drop ((0 : Nat) + z6) z3)) = (0 : Nat)))) ∧ (((Bool.true = Bool.true) ∧ (((((Option.some (Blk.mk (41 : Nat) (u32s z3) Bool.true)) = (Option.some (Blk.mk (41 : Nat) z5 Bool.true))) ∧ (NamelessL z5)) ∧ (z10 = z10)) ∧ (z7 ∧ ((True ∧ (z12 = z12)) ∧ ((True ∧ ((D.sl (0 : Nat) (0 : Nat) (Int.toNat z0) z11) = (D.sl (0 : Nat) (0 : Nat) z1 z11))) ∧ (z7 ∧ ((True ∧ (z8 = z8)) ∧ ((True ∧ ((D.v (Value.int IntKind.i64 (0 : Int))) = (D.v (Value.int IntKind.i64 (((0 : Nat) : Nat) : Int))))) ∧ True)))))))) ∧ (∀ (r : (List Nat)), ((((List.length r) = z1) ∧ ((Dig r) ∧ ((nv r) = z9))) → (True ∧ (((((NamelessL (u32s r)) ∧ (((0 : Nat) < (1 : Nat)) ∧ (((0 : Nat) + z4) ≤ (List.length (u32s r))))) ∧ True) ∧ ((((List.take z4 (List.drop (0 : Nat) (u32s r))) = (u32s (unu (List.take z4 (List.drop (0 : Nat) (u32s r)))))) ∧ (z1 = (List.length (unu (List.take z4 (List.drop (0 : Nat) (u32s r))))))) ∧ ((List.length (unu (List.take z4 (List.drop (0 : Nat) (u32s r))))) ≤ (1000000 : Nat)))) ∧ (True ∧ (True ∧ (True ∧ ((D.ro (List.length (trimL (unu (List.take z4 (List.drop (0 : Nat) (u32s r)))))) (u32s (trimL (unu (List.take z4 (List.drop (0 : Nat) (u32s r))))))) = (D.ro (List.length (dg z9)) (u32s (dg z9))))))))))))))))))))))))) (by kernel_rfl) ?_
  simp only [true_and, and_true, and_self, IsInt_lit, IsBool_lit, IsStr_lit, Bool.not_eq_true', Bool.not_eq_false', Bool.not_true, Bool.not_false, Int.reduceLE, Int.reduceLT, Int.reduceNeg, Nat.le_refl, Int.le_refl, Nat.reduceLT, Nat.reduceLeDiff, Nat.reduceEqDiff, D.v.injEq, D.tup.injEq, D.agg.injEq, D.ro.injEq, List.cons.injEq, Value.int.injEq, Value.bool.injEq, pcond_true, pcond_false, NamelessL, Nameless, Nat.reduceMul, Nat.reduceAdd, Nat.zero_add, Int.toNat_natCast, unu_u32s]
  obtain ⟨hx, hy, hdx, hdy⟩ := hpre
  have hw : IntKind.i64.wrap ((xs.length : Int) + (ys.length : Int)) = ((xs.length + ys.length : Nat) : Int) := by rw [wrap_i64_of (by omega) (by omega)]; omega
  have hr : List.replicate (xs.length + ys.length) (D.v (Value.int IntKind.u32 0)) = u32s (List.replicate (xs.length + ys.length) 0) := u32s_replicate _ 0
  have hn0 : ∀ n, nv (List.replicate n 0) = 0 := fun n => by
    induction n with
    | zero => rfl
    | succ n ih => rw [List.replicate_succ, nv, ih]
  simp only [hw, Int.toNat_natCast, hr]
  refine ⟨⟨by omega, by omega, by omega⟩, ⟨⟨Nat.zero_le _, by simp, fun x hx => by rw [(List.mem_replicate.1 hx).2]; decide⟩, by rw [hn0]; simp [nv], by rw [List.drop_replicate, hn0]⟩, ⟨⟨trivial, u32s_nameless _⟩, trivial, rfl⟩, ?_⟩
  rintro r ⟨hrl, hrd, hre⟩
  have ht : trimL r = dg (nv xs * nv ys) := by rw [← hre]; exact trimL_dig hrd
  have e : List.take ((xs.length + ys.length) * 1) (List.drop 0 (u32s r)) = u32s r := by
    rw [List.drop_zero, Nat.mul_one, ← hrl, ← u32s_length r, List.take_length]
  simp only [e, unu_u32s, ht, hrl, u32s_length]
  exact ⟨⟨⟨u32s_nameless _, by omega⟩, ⟨trivial, trivial⟩, by omega⟩, trivial, trivial⟩
def ent_imultiply : Ent := fun ds => match ds with
  | [.ro n_xs ys_xs, .ro n_ys ys_ys] => some (.ro (dg (nv (unu ys_xs) * nv (unu ys_ys))).length (u32s (dg (nv (unu ys_xs) * nv (unu ys_ys)))), (ys_ys = u32s (unu ys_ys) ∧ n_ys = (unu ys_ys).length) ∧ (ys_xs = u32s (unu ys_xs) ∧ n_xs = (unu ys_xs).length) ∧ (unu ys_xs).length ≤ 400000 ∧ (unu ys_ys).length ≤ 400000 ∧ Dig (unu ys_xs) ∧ Dig (unu ys_ys))
  | _ => none
theorem ent_imultiply_ok : EntOk Try.prog 68 ent_imultiply := by
  intro ds d c h hc; unfold ent_imultiply at h; split at h
  · rename_i n_xs ys_xs n_ys ys_ys; obtain ⟨rfl, rfl⟩ := pair_inj h
    obtain ⟨⟨h1, h2⟩, hc⟩ := hc; subst h2; generalize (unu ys_ys) = ys at *; subst h1
    obtain ⟨⟨h1, h2⟩, hc⟩ := hc; subst h2; generalize (unu ys_xs) = xs at *; subst h1
    exact imultiply_pure xs ys hc
  · cases h
end Go.Proofs.Ythnhfkpihbjddaa
end
section
namespace Go.Proofs.Ythnhfkpihbjddaa
open Go.VD
set_option linter.unusedVariables false
set_option linter.unusedSimpArgs false
set_option maxRecDepth 100000
theorem PureJ.ro0 {P : Program} {f : FuncId} {ys : List D} {d : D} (hn : NamelessL ys) (h : ∀ A c, PureJ P f [.v (.slice A 0 c)] d) : PureJ P f [.ro 0 ys] d := by
  refine ⟨(h none 0).callable, by simp [NamelessL, Nameless, hn], (h none 0).res, fun S w vals hs hG hv => ?_⟩
  simp only [RdT, Rd] at hv
  obtain ⟨u, r, rfl, ⟨_, A, c, rfl, _⟩, rfl⟩ := hv
  exact (h A c).call S w _ hs hG (by simp [RdT, Rd])
theorem iclone0_pure (A : Option Addr) (c : Nat) : PureJ Try.prog 87 [.v (.slice A 0 c)] (.ro 0 []) := by
  refine pureJ_of_vcpN (call := noCalls) (lp := fun _ => none) (N := 10) T_ok mixed noCalls_ok Try.func87 rfl (by decide) (by kernel_rfl) (by kernel_rfl) (LpAllP.none _) (by first | trivial | (simp only [NamelessL, Nameless, and_self, and_true, true_and]; done) | (simp [NamelessL, Nameless, u32s_nameless, namelessL_ints]; done)) (by first | trivial | (simp only [NamelessL, Nameless, and_self, and_true, true_and]; done) | (simp [NamelessL, Nameless, u32s_nameless, namelessL_ints]; done)) ?_
  refine of_eq (B := letI z0 := (D.ro (0 : Nat) ([] : List D)); letI z1 := ((0 : Nat) ≤ (9223372036854775807 : Nat)); letI z2 := ((0 : Nat) ≤ (0 : Nat)); letI z3 := ((0 : Nat) < (1 : Nat)); (True ∧ (True ∧ (True ∧ (pcond (Option.isSome.match_1 (fun (x : (Option Addr)) => Bool) A (fun (val : Addr) => Bool.false) (fun (_ : Unit) => Bool.true)) (True ∧ (True ∧ (True ∧ (z0 = z0)))) ((((0 : Nat) ≤ (16777216 : Nat)) ∧ z1) ∧ (True ∧ ((True ∧ (((22 : Nat) = (22 : Nat)) ∧ (((1 : Nat) = (1 : Nat)) ∧ (((41 : Nat) = (41 : Nat)) ∧ (z2 ∧ (z3 ∧ (z1 ∧ ((0 : Nat) ≤ (140737488355328 : Nat))))))))) ∧ (True ∧ (True ∧ (((NamelessL ([] : List D)) ∧ (z3 ∧ z2)) ∧ (z0 = z0)))))))))))) (by kernel_rfl) ?_
  simp only [true_and, and_true, and_self, IsInt_lit, IsBool_lit, IsStr_lit, Bool.not_eq_true', Bool.not_eq_false', Bool.not_true, Bool.not_false, Int.reduceLE, Int.reduceLT, Int.reduceNeg, Nat.le_refl, Int.le_refl, Nat.reduceLT, Nat.reduceLeDiff, Nat.reduceEqDiff, D.v.injEq, D.tup.injEq, D.agg.injEq, D.ro.injEq, List.cons.injEq, Value.int.injEq, Value.bool.injEq, pcond_true, pcond_false, NamelessL, Nameless, Nat.reduceMul, Nat.reduceAdd, Nat.zero_add, Int.toNat_natCast]
  exact pcond_intro (fun _ => trivial) (fun _ => trivial)
def ent_iclone0 : Ent := fun ds => match ds with
  | [.v (.slice A 0 c)] => some (.ro 0 [], True)
  | _ => none
theorem ent_iclone0_ok : EntOk Try.prog 87 ent_iclone0 := by
  intro ds d c h hc; unfold ent_iclone0 at h; split at h
  · obtain ⟨rfl, rfl⟩ := pair_inj h; exact iclone0_pure _ _
  · cases h
theorem iclone1_pure (xs : List Nat) (hpre : 0 < xs.length ∧ xs.length ≤ 1000000) : PureJ Try.prog 87 [.ro xs.length (u32s xs)] (.ro xs.length (u32s xs)) := by
  refine pureJ_of_vcx (call := noCalls) (lp := fun _ => none) (N := 10) T_ok mixed noCalls_ok Try.func87 rfl (by decide) (by kernel_rfl) (by kernel_rfl) (LpAll.none _) (by first | trivial | (simp only [NamelessL, Nameless, and_self, and_true, true_and]; done) | (simp [NamelessL, Nameless, u32s_nameless, namelessL_ints]; done)) (by first | trivial | (simp only [NamelessL, Nameless, and_self, and_true, true_and]; done) | (simp [NamelessL, Nameless, u32s_nameless, namelessL_ints]; done)) ?_
  refine of_eq (B := letI z2 := List.length xs; letI z0 := (([] : List D) ++ (List.take (z2 * (1 : Nat)) (u32s xs))); letI z1 := ((0 : Nat) + z2); letI z3 := (9223372036854775807 : Nat); letI z4 := ((0 : Nat) < (1 : Nat)); (True ∧ (True ∧ (((0 : Nat) < z2) ∧ ((((0 : Nat) ≤ (16777216 : Nat)) ∧ ((0 : Nat) ≤ z3)) ∧ (True ∧ ((((z2 * (1 : Nat)) ≤ (List.length (u32s xs))) ∧ (((22 : Nat) = (22 : Nat)) ∧ (((1 : Nat) = (1 : Nat)) ∧ (((41 : Nat) = (41 : Nat)) ∧ (((0 : Nat) ≤ (0 : Nat)) ∧ (z4 ∧ ((z1 ≤ z3) ∧ ((z1 * (4 : Nat)) ≤ (140737488355328 : Nat))))))))) ∧ (True ∧ (True ∧ (((NamelessL z0) ∧ (z4 ∧ (((0 : Nat) + (z1 * (1 : Nat))) ≤ (List.length z0)))) ∧ ((D.ro z1 (List.take (z1 * (1 : Nat)) (List.drop (0 : Nat) z0))) = (D.ro z2 (u32s xs))))))))))))) (by kernel_rfl) ?_
  simp only [true_and, and_true, and_self, IsInt_lit, IsBool_lit, IsStr_lit, Bool.not_eq_true', Bool.not_eq_false', Bool.not_true, Bool.not_false, Int.reduceLE, Int.reduceLT, Int.reduceNeg, Nat.le_refl, Int.le_refl, Nat.reduceLT, Nat.reduceLeDiff, Nat.reduceEqDiff, D.v.injEq, D.tup.injEq, D.agg.injEq, D.ro.injEq, List.cons.injEq, Value.int.injEq, Value.bool.injEq, pcond_true, pcond_false, NamelessL, Nameless, Nat.reduceMul, Nat.reduceAdd, Nat.zero_add, Int.toNat_natCast, Nat.mul_one, List.nil_append, u32s_length, u32s_take, u32s_nameless, List.take_length, List.drop_zero]
  exact ⟨hpre.1, by omega, by omega⟩
def ent_iclone1 : Ent := fun ds => match ds with
  | [.ro n_xs ys_xs] => some (.ro (unu ys_xs).length (u32s (unu ys_xs)), (ys_xs = u32s (unu ys_xs) ∧ n_xs = (unu ys_xs).length) ∧ 0 < (unu ys_xs).length ∧ (unu ys_xs).length ≤ 1000000)
  | _ => none
theorem ent_iclone1_ok : EntOk Try.prog 87 ent_iclone1 := by
  intro ds d c h hc; unfold ent_iclone1 at h; split at h
  · rename_i n_xs ys_xs; obtain ⟨rfl, rfl⟩ := pair_inj h
    obtain ⟨⟨h1, h2⟩, hc⟩ := hc; subst h2; generalize (unu ys_xs) = xs at *; subst h1
    exact iclone1_pure xs hc
  · cases h
theorem iclone_pure (xs : List Nat) (hpre : xs.length ≤ 1000000) : PureJ Try.prog 87 [.ro xs.length (u32s xs)] (.ro xs.length (u32s xs)) := by
  by_cases h : 0 < xs.length
  · exact iclone1_pure xs ⟨h, hpre⟩
  · have : xs = [] := List.eq_nil_of_length_eq_zero (by omega)
    subst this
    exact PureJ.ro0 (u32s_nameless []) fun A c => iclone0_pure A c
def ent_iclone : Ent := fun ds => match ds with
  | [.ro n ys] => some (.ro (unu ys).length (u32s (unu ys)), (ys = u32s (unu ys) ∧ n = (unu ys).length) ∧ (unu ys).length ≤ 1000000)
  | _ => none
theorem ent_iclone_ok : EntOk Try.prog 87 ent_iclone := by
  intro ds d c h hc; unfold ent_iclone at h; split at h
  · rename_i n ys; obtain ⟨rfl, rfl⟩ := pair_inj h
    obtain ⟨⟨h1, h2⟩, hc⟩ := hc; subst h2; generalize unu ys = xs at *; subst h1
    exact iclone_pure xs hc
  · cases h
def okS (v : Int) : Bool × List Nat × Int := bif decide ((ofL v).length ≤ 400) then (decide (v < 0), ofL v, 0) else (false, [], 2)
def arS (ok : Bool) (v : Int) : Bool × List Nat × Int := bif ok then okS v else (false, [], 1)
def d_ar (p : Bool × List Nat × Int) : D := .tup [d_int p.1 p.2.1, .v (.int .i64 p.2.2)]
theorem sig_ok {neg : Bool} {xs : List Nat} {v : Int} (hn : madeN neg xs = decide (v < 0)) (ht : trimL xs = ofL v) : sigN neg xs = (okS v).1 ∧ sigL xs = (okS v).2.1 ∧ sigE xs = (okS v).2.2 := by
  unfold sigN sigL sigE sigF okS
  rw [hn, ht]
  by_cases h : (ofL v).length ≤ 400
  · simp [h]
  · simp [h]
theorem valid_good {n : Bool} {xs : List Nat} (hd : Dig xs) (h : validL n xs = true) : Good n xs ∧ xs.length ≤ 400 := by
  unfold validL at h
  by_cases h0 : xs.length = 0
  · have : xs = [] := List.eq_nil_of_length_eq_zero h0
    subst this
    simp at h
    subst h
    exact ⟨good_zero, by simp⟩
  · rw [if_neg h0] at h
    simp only [Bool.and_eq_true, decide_eq_true_eq] at h
    have hc := canon_dg (xs := xs) ⟨hd, .inr h.2⟩
    refine ⟨⟨hc.symm, fun _ hz => ?_⟩, h.1⟩
    rw [hz, dg_zero] at hc
    rw [← hc] at h0
    exact h0 rfl
theorem iv_not {n : Bool} {xs : List Nat} : iv (!n) xs = -iv n xs := by unfold iv; cases n <;> simp
def LenOk (xs : List Nat) : Prop := xs.length ≤ 1000 ∧ Dig xs
def resG (neg : Bool) (xs : List Nat) : Bool × List Nat × Int := bif decide (xs.length ≤ 400) then (neg, xs, 0) else (false, [], 2)
theorem resG_ok {neg : Bool} {xs : List Nat} {v : Int} (hn : madeN neg xs = decide (v < 0)) (ht : trimL xs = ofL v) : resG (madeN neg xs) (trimL xs) = okS v := by
  unfold resG okS; rw [hn, ht]
theorem gresult_pure (neg : Bool) (xs : List Nat) (hpre : xs.length ≤ 1000000) : PureJ Try.prog 59 [.agg [.v (.bool neg), .ro xs.length (u32s xs)]] (d_ar (resG neg xs)) := by
  refine pureJ_of_vcpN (call := noCalls) (lp := fun _ => none) (N := 10) T_ok mixed noCalls_ok Try.func59 rfl (by decide) (by kernel_rfl) (by kernel_rfl) (LpAllP.none _) (by (simp [NamelessL, Nameless, d_ar, d_int, u32s_nameless]; done)) (by (simp [NamelessL, Nameless, d_ar, d_int, u32s_nameless]; done)) ?_
  refine of_eq (B := letI z3 := (Prod.snd (resG neg xs)); letI z0 := (D.tup [(D.agg [(D.v (Value.bool (Prod.fst (resG neg xs)))), (D.ro (List.length (Prod.fst z3)) (u32s (Prod.fst z3)))]), (D.v (Value.int IntKind.i64 (Prod.snd z3)))]); letI z1 := ((2 : Nat) ≤ (2 : Nat)); letI z2 := ((True ∧ (True ∧ True)) ∧ (True ∧ True)); letI z4 := (((2 : Nat) = (2 : Nat)) ∧ z1); (True ∧ (True ∧ (True ∧ (True ∧ (((1 : Nat) < (2 : Nat)) ∧ (True ∧ (True ∧ (pcond (Decidable.decide ((400 : Int) < (((List.length xs) : Nat) : Int))) (True ∧ (z4 ∧ (True ∧ ((z1 ∧ True) ∧ (z2 ∧ ((D.tup [(D.agg [(D.v (Value.bool Bool.false)), (D.ro (0 : Nat) ([] : List D))]), (D.v (Value.int IntKind.i64 (2 : Int)))]) = z0)))))) (z1 ∧ (z4 ∧ (True ∧ ((z1 ∧ True) ∧ (z2 ∧ ((D.tup [(D.agg [(D.v (Value.bool neg)), (D.ro (List.length xs) (u32s xs))]), (D.v (Value.int IntKind.i64 (0 : Int)))]) = z0))))))))))))))) (by kernel_rfl) ?_
  simp only [true_and, and_true, and_self, IsInt_lit, IsBool_lit, IsStr_lit, Bool.not_eq_true', Bool.not_eq_false', Bool.not_true, Bool.not_false, Int.reduceLE, Int.reduceLT, Int.reduceNeg, Nat.le_refl, Int.le_refl, Nat.reduceLT, Nat.reduceLeDiff, Nat.reduceEqDiff, D.v.injEq, D.tup.injEq, D.agg.injEq, D.ro.injEq, List.cons.injEq, Value.int.injEq, Value.bool.injEq, pcond_true, pcond_false, NamelessL, Nameless, Nat.reduceMul, Nat.reduceAdd, Nat.zero_add, Int.toNat_natCast]
  refine pcond_intro (fun h => ?_) (fun h => ?_)
  · simp only [decide_eq_true_eq] at h
    have : ¬ xs.length ≤ 400 := by omega
    simp [resG, this, u32s]
  · simp only [decide_eq_false_iff_not] at h
    have : xs.length ≤ 400 := by omega
    simp [resG, this]
def ent_gresult : Ent := fun ds => match ds with
  | [.agg [.v (.bool neg), .ro n_xs ys_xs]] => some (d_ar (resG neg (unu ys_xs)), (ys_xs = u32s (unu ys_xs) ∧ n_xs = (unu ys_xs).length) ∧ (unu ys_xs).length ≤ 1000000)
  | _ => none
theorem ent_gresult_ok : EntOk Try.prog 59 ent_gresult := by
  intro ds d c h hc; unfold ent_gresult at h; split at h
  · rename_i neg n_xs ys_xs; obtain ⟨rfl, rfl⟩ := pair_inj h
    obtain ⟨⟨h1, h2⟩, hc⟩ := hc; subst h2; generalize (unu ys_xs) = xs at *; subst h1
    exact gresult_pure _ xs hc
  · cases h
end Go.Proofs.Ythnhfkpihbjddaa
end
section
namespace Go.Proofs.Ythnhfkpihbjddaa
open Go.VD
set_option linter.unusedVariables false
set_option linter.unusedSimpArgs false
set_option maxRecDepth 100000
theorem hsum_pure (xn : Bool) (xs : List Nat) (yn : Bool) (ys : List Nat) (hpre : (xs = dg (nv xs) ∧ xs.length ≤ 1000) ∧ ys = dg (nv ys) ∧ ys.length ≤ 1000) : PureJ Try.prog 67 [.agg [.v (.bool xn), .ro xs.length (u32s xs)], .v (.bool yn), .ro ys.length (u32s ys)] (d_ar (okS (iv xn xs + iv yn ys))) := by
  refine pureJ_of_vcx (call := (addPure 52 ent_iadd (addPure 65 ent_icompare (addPure 53 ent_isub (addPure 54 ent_isigned noCalls))))) (lp := fun _ => none) (N := 10) T_ok mixed (addPure_ok ent_iadd_ok (addPure_ok ent_icompare_ok (addPure_ok ent_isub_ok (addPure_ok ent_isigned_ok noCalls_ok)))) Try.func67 rfl (by decide) (by kernel_rfl) (by kernel_rfl) (LpAll.none _) (by (simp [NamelessL, Nameless, d_ar, d_int, u32s_nameless]; done)) (by (simp [NamelessL, Nameless, d_ar, d_int, u32s_nameless]; done)) ?_
  refine of_eq (B := letI z10 := (okS ((iv xn xs) + (iv yn ys))); letI z21 := Prod.snd z10; letI z0 := (D.tup [(D.agg [(D.v (Value.bool (Prod.fst z10))), (D.ro (List.length (Prod.fst z21)) (u32s (Prod.fst z21)))]), (D.v (Value.int IntKind.i64 (Prod.snd z21)))]); letI z1 := (unu (u32s xs)); letI z2 := (unu (u32s ys)); letI z16 := (dg ((nv z1) + (nv z2))); letI z3 := (unu (u32s z16)); letI z17 := (dg ((nv z1) - (nv z2))); letI z4 := (unu (u32s z17)); letI z18 := (dg ((nv z2) - (nv z1))); letI z5 := (unu (u32s z18)); letI z15 := List.length z2; letI z6 := (((u32s ys) = (u32s z2)) ∧ ((List.length ys) = z15)); letI z11 := List.length z1; letI z7 := (((u32s xs) = (u32s z1)) ∧ ((List.length xs) = z11)); letI z8 := ((2 : Nat) ≤ (2 : Nat)); letI z9 := ((True ∧ (True ∧ True)) ∧ (True ∧ True)); letI z12 := ((1 : Nat) < (2 : Nat)); letI z13 := (((2 : Nat) = (2 : Nat)) ∧ z8); letI z14 := (((0 : Nat) < (2 : Nat)) ∧ (IsBool (D.v (Value.bool xn)))); letI z19 := (400000 : Nat); letI z20 := (1000000 : Nat); letI z22 := ((Dig z1) ∧ (Dig z2)); (True ∧ (True ∧ (True ∧ (True ∧ (z14 ∧ (True ∧ (True ∧ (pcond (xn == yn) (True ∧ (True ∧ (z12 ∧ (True ∧ ((z6 ∧ (z7 ∧ ((z11 ≤ z19) ∧ ((z15 ≤ z19) ∧ z22)))) ∧ (((((u32s z16) = (u32s z3)) ∧ ((List.length z16) = (List.length z3))) ∧ ((List.length z3) ≤ z20)) ∧ (True ∧ (True ∧ (z13 ∧ (True ∧ ((z8 ∧ True) ∧ (z9 ∧ ((D.tup [(D.agg [(D.v (Value.bool (sigN yn z3))), (D.ro (List.length (sigL z3)) (u32s (sigL z3)))]), (D.v (Value.int IntKind.i64 (sigE z3)))]) = z0))))))))))))) (True ∧ (z12 ∧ (True ∧ ((z6 ∧ (z7 ∧ (z11 ≤ (1000000000000 : Nat)))) ∧ (True ∧ (pcond (Decidable.decide ((0 : Int) ≤ (cmpL z1 z2))) (True ∧ (z14 ∧ (True ∧ (z12 ∧ (True ∧ ((z6 ∧ (z7 ∧ (((z11 ≤ z19) ∧ ((z15 ≤ z11) ∧ z22)) ∧ ((nv z2) ≤ (nv z1))))) ∧ (((((u32s z17) = (u32s z4)) ∧ ((List.length z17) = (List.length z4))) ∧ ((List.length z4) ≤ z20)) ∧ (True ∧ (True ∧ (z13 ∧ (True ∧ ((Bool.true = Bool.true) ∧ ((z8 ∧ True) ∧ (z9 ∧ ((D.tup [(D.agg [(D.v (Value.bool (sigN xn z4))), (D.ro (List.length (sigL z4)) (u32s (sigL z4)))]), (D.v (Value.int IntKind.i64 (sigE z4)))]) = z0))))))))))))))) (True ∧ (True ∧ (True ∧ (z12 ∧ ((z7 ∧ (z6 ∧ (((z15 ≤ z19) ∧ ((z11 ≤ z15) ∧ ((Dig z2) ∧ (Dig z1)))) ∧ ((nv z1) ≤ (nv z2))))) ∧ (((((u32s z18) = (u32s z5)) ∧ ((List.length z18) = (List.length z5))) ∧ ((List.length z5) ≤ z20)) ∧ (True ∧ (True ∧ (z13 ∧ (True ∧ ((z8 ∧ True) ∧ (z9 ∧ ((D.tup [(D.agg [(D.v (Value.bool (sigN yn z5))), (D.ro (List.length (sigL z5)) (u32s (sigL z5)))]), (D.v (Value.int IntKind.i64 (sigE z5)))]) = z0)))))))))))))))))))))))))))) (by kernel_rfl) ?_
  simp only [true_and, and_true, and_self, IsInt_lit, IsBool_lit, IsStr_lit, Bool.not_eq_true', Bool.not_eq_false', Bool.not_true, Bool.not_false, Int.reduceLE, Int.reduceLT, Int.reduceNeg, Nat.le_refl, Int.le_refl, Nat.reduceLT, Nat.reduceLeDiff, Nat.reduceEqDiff, D.v.injEq, D.tup.injEq, D.agg.injEq, D.ro.injEq, List.cons.injEq, Value.int.injEq, Value.bool.injEq, pcond_true, pcond_false, NamelessL, Nameless, Nat.reduceMul, Nat.reduceAdd, Nat.zero_add, Int.toNat_natCast, unu_u32s]
  obtain ⟨⟨gx, lx⟩, gy, ly⟩ := hpre
  have dx : Dig xs := by rw [gx]; exact dg_dig _
  have dy : Dig ys := by rw [gy]; exact dg_dig _
  have hm : plusM xs ys ≤ 1000 := by unfold plusM; omega
  have hc : cmpL xs ys = cmpN (nv xs) (nv ys) := by rw [gx, gy, cmpL_dg, ← gx, ← gy]
  refine pcond_intro (fun h => ?_) (fun h => ⟨by omega, pcond_intro (fun h2 => ?_) (fun h2 => ?_)⟩)
  · have hlen := dg_length_le (plus_lt dx dy)
    obtain ⟨e1, e2⟩ := isum_same (show xn = yn by simpa using h) (xs := xs) (ys := ys)
    obtain ⟨s1, s2, s3⟩ := sig_ok (neg := yn) (xs := dg (nv xs + nv ys)) (v := iv xn xs + iv yn ys) (by rw [(madeN_dg yn _).1]; exact e1) (by rw [(madeN_dg yn _).2]; exact e2)
    rw [s1, s2, s3]
    exact ⟨⟨by omega, by omega, dx, dy⟩, by omega, ⟨rfl, rfl, rfl⟩, rfl⟩
  · simp only [decide_eq_true_eq, hc] at h2
    have hle : nv ys ≤ nv xs := by unfold cmpN at h2; split at h2 <;> omega
    have hlm := dg_len_mono hle
    rw [← gx, ← gy] at hlm
    have hl2 := dg_len_mono (show nv xs - nv ys ≤ nv xs by omega)
    rw [← gx] at hl2
    obtain ⟨e1, e2⟩ := add_diff (xn := xn) (yn := yn) (by simpa using h) hle
    obtain ⟨s1, s2, s3⟩ := sig_ok e1 e2
    rw [s1, s2, s3]
    exact ⟨⟨⟨by omega, hlm, dx, dy⟩, hle⟩, by omega, ⟨rfl, rfl, rfl⟩, rfl⟩
  · simp only [decide_eq_false_iff_not, hc] at h2
    have hle : nv xs ≤ nv ys := by unfold cmpN at h2; split at h2 <;> (try split at h2) <;> omega
    have hlm := dg_len_mono hle
    rw [← gx, ← gy] at hlm
    have hl2 := dg_len_mono (show nv ys - nv xs ≤ nv ys by omega)
    rw [← gy] at hl2
    obtain ⟨e1, e2⟩ := add_diff (xn := yn) (yn := xn) (by simp at h; exact fun k => h k.symm) hle
    rw [Int.add_comm] at e1 e2
    obtain ⟨s1, s2, s3⟩ := sig_ok e1 e2
    rw [s1, s2, s3]
    exact ⟨⟨⟨by omega, hlm, dy, dx⟩, hle⟩, by omega, ⟨rfl, rfl, rfl⟩, rfl⟩
def ent_hsum : Ent := fun ds => match ds with
  | [.agg [.v (.bool xn), .ro n_xs ys_xs], .v (.bool yn), .ro n_ys ys_ys] => some (d_ar (okS (iv xn (unu ys_xs) + iv yn (unu ys_ys))), (ys_ys = u32s (unu ys_ys) ∧ n_ys = (unu ys_ys).length) ∧ (ys_xs = u32s (unu ys_xs) ∧ n_xs = (unu ys_xs).length) ∧ ((unu ys_xs) = dg (nv (unu ys_xs)) ∧ (unu ys_xs).length ≤ 1000) ∧ (unu ys_ys) = dg (nv (unu ys_ys)) ∧ (unu ys_ys).length ≤ 1000)
  | _ => none
theorem ent_hsum_ok : EntOk Try.prog 67 ent_hsum := by
  intro ds d c h hc; unfold ent_hsum at h; split at h
  · rename_i xn n_xs ys_xs yn n_ys ys_ys; obtain ⟨rfl, rfl⟩ := pair_inj h
    obtain ⟨⟨h1, h2⟩, hc⟩ := hc; subst h2; generalize (unu ys_ys) = ys at *; subst h1
    obtain ⟨⟨h1, h2⟩, hc⟩ := hc; subst h2; generalize (unu ys_xs) = xs at *; subst h1
    exact hsum_pure _ xs _ ys hc
  · cases h
theorem hAdd_pure (xn : Bool) (xs : List Nat) (yn : Bool) (ys : List Nat) (hpre : LenOk xs ∧ LenOk ys) : PureJ Try.prog 29 [.agg [.v (.bool xn), .ro xs.length (u32s xs)], .agg [.v (.bool yn), .ro ys.length (u32s ys)]] (d_ar (arS (validL xn xs && validL yn ys) (iv xn xs + iv yn ys))) := by
  refine pureJ_of_vcpN (call := (addPure 33 ent_iValid (addPure 67 ent_hsum noCalls))) (lp := fun _ => none) (N := 10) T_ok mixed (addPure_ok ent_iValid_ok (addPure_ok ent_hsum_ok noCalls_ok)) Try.func29 rfl (by decide) (by kernel_rfl) (by kernel_rfl) (LpAllP.none _) (by (simp [NamelessL, Nameless, d_ar, d_int, u32s_nameless]; done)) (by (simp [NamelessL, Nameless, d_ar, d_int, u32s_nameless]; done)) ?_
  refine of_eq (B := letI z2 := (arS ((validL xn xs) && (validL yn ys)) ((iv xn xs) + (iv yn ys))); letI z14 := (Prod.fst (Prod.snd z2)); letI z0 := (D.tup [(D.agg [(D.v (Value.bool (Prod.fst z2))), (D.ro (List.length z14) (u32s z14))]), (D.v (Value.int IntKind.i64 (Prod.snd (Prod.snd z2))))]); letI z4 := ((2 : Nat) ≤ (2 : Nat)); letI z10 := (((2 : Nat) = (2 : Nat)) ∧ z4); letI z9 := ((True ∧ (True ∧ True)) ∧ (True ∧ True)); letI z1 := (True ∧ (z10 ∧ (True ∧ ((z4 ∧ True) ∧ (z9 ∧ ((D.tup [(D.agg [(D.v (Value.bool Bool.false)), (D.ro (0 : Nat) ([] : List D))]), (D.v (Value.int IntKind.i64 (1 : Int)))]) = z0)))))); letI z5 := (unu (u32s xs)); letI z6 := (unu (u32s ys)); letI z3 := (okS ((iv xn z5) + (iv yn z6))); letI z11 := List.length z5; letI z7 := (((u32s xs) = (u32s z5)) ∧ ((List.length xs) = z11)); letI z12 := List.length z6; letI z8 := (((u32s ys) = (u32s z6)) ∧ ((List.length ys) = z12)); letI z13 := (Prod.fst (Prod.snd z3)); letI z15 := (1000000000000 : Nat); (True ∧ (True ∧ (True ∧ (True ∧ (z4 ∧ ((z7 ∧ (z11 ≤ z15)) ∧ (True ∧ (True ∧ (pcond (!(validL xn z5)) (True ∧ z1) (z4 ∧ ((z8 ∧ (z12 ≤ z15)) ∧ (True ∧ (True ∧ (pcond (!(validL yn z6)) z1 (z4 ∧ (True ∧ ((((0 : Nat) < (2 : Nat)) ∧ (IsBool (D.v (Value.bool yn)))) ∧ (True ∧ (((1 : Nat) < (2 : Nat)) ∧ ((z8 ∧ (z7 ∧ (((z5 = (dg (nv z5))) ∧ (z11 ≤ (1000 : Nat))) ∧ ((z6 = (dg (nv z6))) ∧ (z12 ≤ (1000 : Nat)))))) ∧ (True ∧ (True ∧ (z10 ∧ (True ∧ ((z4 ∧ True) ∧ (z9 ∧ ((D.tup [(D.agg [(D.v (Value.bool (Prod.fst z3))), (D.ro (List.length z13) (u32s z13))]), (D.v (Value.int IntKind.i64 (Prod.snd (Prod.snd z3))))]) = z0)))))))))))))))))))))))))))) (by kernel_rfl) ?_
  simp only [true_and, and_true, and_self, IsInt_lit, IsBool_lit, IsStr_lit, Bool.not_eq_true', Bool.not_eq_false', Bool.not_true, Bool.not_false, Int.reduceLE, Int.reduceLT, Int.reduceNeg, Nat.le_refl, Int.le_refl, Nat.reduceLT, Nat.reduceLeDiff, Nat.reduceEqDiff, D.v.injEq, D.tup.injEq, D.agg.injEq, D.ro.injEq, List.cons.injEq, Value.int.injEq, Value.bool.injEq, pcond_true, pcond_false, NamelessL, Nameless, Nat.reduceMul, Nat.reduceAdd, Nat.zero_add, Int.toNat_natCast, unu_u32s]
  obtain ⟨⟨lx, dx⟩, ly, dy⟩ := hpre
  refine ⟨by omega, pcond_intro (fun h => ?_) (fun h => ⟨by omega, pcond_intro (fun h2 => ?_) (fun h2 => ?_)⟩)⟩
  · simp only [Bool.not_eq_true'] at h; simp [arS, h, u32s]
  · simp only [Bool.not_eq_true', Bool.not_eq_false'] at h h2; simp [arS, h, h2, u32s]
  · simp only [Bool.not_eq_false'] at h h2
    have gx := (valid_good dx h).1
    have gy := (valid_good dy h2).1
    refine ⟨⟨⟨gx.1, lx⟩, gy.1, ly⟩, ?_⟩
    simp [arS, h, h2]
def ent_hAdd : Ent := fun ds => match ds with
  | [.agg [.v (.bool xn), .ro n_xs ys_xs], .agg [.v (.bool yn), .ro n_ys ys_ys]] => some (d_ar (arS (validL xn (unu ys_xs) && validL yn (unu ys_ys)) (iv xn (unu ys_xs) + iv yn (unu ys_ys))), (ys_ys = u32s (unu ys_ys) ∧ n_ys = (unu ys_ys).length) ∧ (ys_xs = u32s (unu ys_xs) ∧ n_xs = (unu ys_xs).length) ∧ LenOk (unu ys_xs) ∧ LenOk (unu ys_ys))
  | _ => none
theorem ent_hAdd_ok : EntOk Try.prog 29 ent_hAdd := by
  intro ds d c h hc; unfold ent_hAdd at h; split at h
  · rename_i xn n_xs ys_xs yn n_ys ys_ys; obtain ⟨rfl, rfl⟩ := pair_inj h
    obtain ⟨⟨h1, h2⟩, hc⟩ := hc; subst h2; generalize (unu ys_ys) = ys at *; subst h1
    obtain ⟨⟨h1, h2⟩, hc⟩ := hc; subst h2; generalize (unu ys_xs) = xs at *; subst h1
    exact hAdd_pure _ xs _ ys hc
  · cases h
theorem hMul_pure (xn : Bool) (xs : List Nat) (yn : Bool) (ys : List Nat) (hpre : LenOk xs ∧ LenOk ys) : PureJ Try.prog 31 [.agg [.v (.bool xn), .ro xs.length (u32s xs)], .agg [.v (.bool yn), .ro ys.length (u32s ys)]] (d_ar (arS (validL xn xs && validL yn ys) (iv xn xs * iv yn ys))) := by
  refine pureJ_of_vcpN (call := (addPure 33 ent_iValid (addPure 68 ent_imultiply (addPure 54 ent_isigned noCalls)))) (lp := fun _ => none) (N := 10) T_ok mixed (addPure_ok ent_iValid_ok (addPure_ok ent_imultiply_ok (addPure_ok ent_isigned_ok noCalls_ok))) Try.func31 rfl (by decide) (by kernel_rfl) (by kernel_rfl) (LpAllP.none _) (by (simp [NamelessL, Nameless, d_ar, d_int, u32s_nameless]; done)) (by (simp [NamelessL, Nameless, d_ar, d_int, u32s_nameless]; done)) ?_
  refine of_eq (B := letI z3 := (arS ((validL xn xs) && (validL yn ys)) ((iv xn xs) * (iv yn ys))); letI z14 := (Prod.fst (Prod.snd z3)); letI z0 := (D.tup [(D.agg [(D.v (Value.bool (Prod.fst z3))), (D.ro (List.length z14) (u32s z14))]), (D.v (Value.int IntKind.i64 (Prod.snd (Prod.snd z3))))]); letI z5 := (unu (u32s xs)); letI z6 := (unu (u32s ys)); letI z13 := (dg ((nv z5) * (nv z6))); letI z1 := (u32s z13); letI z4 := ((2 : Nat) ≤ (2 : Nat)); letI z10 := (((2 : Nat) = (2 : Nat)) ∧ z4); letI z9 := ((True ∧ (True ∧ True)) ∧ (True ∧ True)); letI z2 := (True ∧ (z10 ∧ (True ∧ ((z4 ∧ True) ∧ (z9 ∧ ((D.tup [(D.agg [(D.v (Value.bool Bool.false)), (D.ro (0 : Nat) ([] : List D))]), (D.v (Value.int IntKind.i64 (1 : Int)))]) = z0)))))); letI z11 := List.length z5; letI z7 := (((u32s xs) = (u32s z5)) ∧ ((List.length xs) = z11)); letI z12 := List.length z6; letI z8 := (((u32s ys) = (u32s z6)) ∧ ((List.length ys) = z12)); letI z15 := ((0 : Nat) < (2 : Nat)); letI z16 := ((1 : Nat) < (2 : Nat)); letI z17 := (List.length (unu z1)); letI z18 := (1000000000000 : Nat); (True ∧ (True ∧ (True ∧ (True ∧ (z4 ∧ ((z7 ∧ (z11 ≤ z18)) ∧ (True ∧ (True ∧ (pcond (!(validL xn z5)) (True ∧ z2) (z4 ∧ ((z8 ∧ (z12 ≤ z18)) ∧ (True ∧ (True ∧ (pcond (!(validL yn z6)) z2 (True ∧ ((z15 ∧ (IsBool (D.v (Value.bool xn)))) ∧ (True ∧ ((z15 ∧ (IsBool (D.v (Value.bool yn)))) ∧ (True ∧ (True ∧ (z16 ∧ (True ∧ (z16 ∧ ((z8 ∧ (z7 ∧ ((z11 ≤ (400000 : Nat)) ∧ ((z12 ≤ (400000 : Nat)) ∧ ((Dig z5) ∧ (Dig z6)))))) ∧ ((((z1 = (u32s (unu z1))) ∧ ((List.length z13) = z17)) ∧ (z17 ≤ (1000000 : Nat))) ∧ (True ∧ (True ∧ (z10 ∧ (True ∧ ((Bool.true = Bool.true) ∧ ((z4 ∧ True) ∧ (z9 ∧ ((D.tup [(D.agg [(D.v (Value.bool (sigN (!(xn == yn)) (unu z1)))), (D.ro (List.length (sigL (unu z1))) (u32s (sigL (unu z1))))]), (D.v (Value.int IntKind.i64 (sigE (unu z1))))]) = z0)))))))))))))))))))))))))))))))))) (by kernel_rfl) ?_
  simp only [true_and, and_true, and_self, IsInt_lit, IsBool_lit, IsStr_lit, Bool.not_eq_true', Bool.not_eq_false', Bool.not_true, Bool.not_false, Int.reduceLE, Int.reduceLT, Int.reduceNeg, Nat.le_refl, Int.le_refl, Nat.reduceLT, Nat.reduceLeDiff, Nat.reduceEqDiff, D.v.injEq, D.tup.injEq, D.agg.injEq, D.ro.injEq, List.cons.injEq, Value.int.injEq, Value.bool.injEq, pcond_true, pcond_false, NamelessL, Nameless, Nat.reduceMul, Nat.reduceAdd, Nat.zero_add, Int.toNat_natCast, unu_u32s]
  obtain ⟨⟨lx, dx⟩, ly, dy⟩ := hpre
  refine ⟨by omega, pcond_intro (fun h => ?_) (fun h => ⟨by omega, pcond_intro (fun h2 => ?_) (fun h2 => ?_)⟩)⟩
  · simp only [Bool.not_eq_true'] at h; simp [arS, h, u32s]
  · simp only [Bool.not_eq_true', Bool.not_eq_false'] at h h2; simp [arS, h, h2, u32s]
  · simp only [Bool.not_eq_false'] at h h2
    have gx := (valid_good dx h).1
    have gy := (valid_good dy h2).1
    have hl := dg_mul_len dx dy
    obtain ⟨m1, m2⟩ := mul_iv xn yn xs ys
    obtain ⟨s1, s2, s3⟩ := sig_ok m1 m2
    refine ⟨⟨by omega, by omega, dx, dy⟩, by omega, ?_⟩
    rw [show (!xn == yn) = (xn != yn) from rfl, s1, s2, s3]
    simp [arS, h, h2]
def ent_hMul : Ent := fun ds => match ds with
  | [.agg [.v (.bool xn), .ro n_xs ys_xs], .agg [.v (.bool yn), .ro n_ys ys_ys]] => some (d_ar (arS (validL xn (unu ys_xs) && validL yn (unu ys_ys)) (iv xn (unu ys_xs) * iv yn (unu ys_ys))), (ys_ys = u32s (unu ys_ys) ∧ n_ys = (unu ys_ys).length) ∧ (ys_xs = u32s (unu ys_xs) ∧ n_xs = (unu ys_xs).length) ∧ LenOk (unu ys_xs) ∧ LenOk (unu ys_ys))
  | _ => none
theorem ent_hMul_ok : EntOk Try.prog 31 ent_hMul := by
  intro ds d c h hc; unfold ent_hMul at h; split at h
  · rename_i xn n_xs ys_xs yn n_ys ys_ys; obtain ⟨rfl, rfl⟩ := pair_inj h
    obtain ⟨⟨h1, h2⟩, hc⟩ := hc; subst h2; generalize (unu ys_ys) = ys at *; subst h1
    obtain ⟨⟨h1, h2⟩, hc⟩ := hc; subst h2; generalize (unu ys_xs) = xs at *; subst h1
    exact hMul_pure _ xs _ ys hc
  · cases h
theorem gAdd_pure (xn : Bool) (xs : List Nat) (yn : Bool) (ys : List Nat) (hpre : LenOk xs ∧ LenOk ys) : PureJ Try.prog 30 [.agg [.v (.bool xn), .ro xs.length (u32s xs)], .agg [.v (.bool yn), .ro ys.length (u32s ys)]] (d_ar (arS (validL xn xs && validL yn ys) (iv xn xs + iv yn ys))) := by
  refine pureJ_of_vcpN (call := (addPure 21 ent_Valid (addPure 61 ent_cmpr (addPure 57 ent_plus (addPure 58 ent_minus (addPure 60 ent_made (addPure 59 ent_gresult noCalls))))))) (lp := fun _ => none) (N := 10) T_ok mixed (addPure_ok ent_Valid_ok (addPure_ok ent_cmpr_ok (addPure_ok ent_plus_ok (addPure_ok ent_minus_ok (addPure_ok ent_made_ok (addPure_ok ent_gresult_ok noCalls_ok)))))) Try.func30 rfl (by decide) (by kernel_rfl) (by kernel_rfl) (LpAllP.none _) (by (simp [NamelessL, Nameless, d_ar, d_int, u32s_nameless]; done)) (by (simp [NamelessL, Nameless, d_ar, d_int, u32s_nameless]; done)) ?_
  refine of_eq (B := letI z10 := (arS ((validL xn xs) && (validL yn ys)) ((iv xn xs) + (iv yn ys))); letI z33 := Prod.snd z10; letI z0 := (D.tup [(D.agg [(D.v (Value.bool (Prod.fst z10))), (D.ro (List.length (Prod.fst z33)) (u32s (Prod.fst z33)))]), (D.v (Value.int IntKind.i64 (Prod.snd z33)))]); letI z1 := (unu (u32s xs)); letI z2 := (unu (u32s ys)); letI z25 := (dg ((nv z1) - (nv z2))); letI z3 := (unu (u32s z25)); letI z26 := (dg ((nv z2) - (nv z1))); letI z4 := (unu (u32s z26)); letI z37 := (u32s (plusL z1 z2)); letI z5 := (unu z37); letI z9 := ((2 : Nat) ≤ (2 : Nat)); letI z17 := (((2 : Nat) = (2 : Nat)) ∧ z9); letI z12 := ((True ∧ (True ∧ True)) ∧ (True ∧ True)); letI z6 := (True ∧ (z17 ∧ (True ∧ ((z9 ∧ True) ∧ (z12 ∧ ((D.tup [(D.agg [(D.v (Value.bool Bool.false)), (D.ro (0 : Nat) ([] : List D))]), (D.v (Value.int IntKind.i64 (1 : Int)))]) = z0)))))); letI z18 := List.length z1; letI z7 := (((u32s xs) = (u32s z1)) ∧ ((List.length xs) = z18)); letI z19 := List.length z2; letI z8 := (((u32s ys) = (u32s z2)) ∧ ((List.length ys) = z19)); letI z11 := ((1 : Nat) < (2 : Nat)); letI z21 := (unu (u32s (trimL z5))); letI z13 := (resG (madeN xn z5) z21); letI z22 := (unu (u32s (trimL z3))); letI z14 := (resG (madeN xn z3) z22); letI z23 := (unu (u32s (trimL z4))); letI z15 := (resG (madeN yn z4) z23); letI z35 := ((0 : Nat) < (2 : Nat)); letI z16 := (z35 ∧ (IsBool (D.v (Value.bool xn)))); letI z20 := (1000000 : Nat); letI z24 := (z35 ∧ (IsBool (D.v (Value.bool yn)))); letI z27 := Bool.true = Bool.true; letI z36 := (1000000000000 : Nat); letI z28 := (z7 ∧ (z18 ≤ z36)); letI z29 := (400000 : Nat); letI z30 := Prod.snd z13; letI z31 := Prod.snd z14; letI z32 := Prod.snd z15; letI z34 := ((Dig z1) ∧ (Dig z2)); (True ∧ (True ∧ (True ∧ (True ∧ (z9 ∧ (z28 ∧ (True ∧ (True ∧ (pcond (!(validL xn z1)) (True ∧ z6) (z9 ∧ ((z8 ∧ (z19 ≤ z36)) ∧ (True ∧ (True ∧ (pcond (!(validL yn z2)) z6 (True ∧ (z16 ∧ (True ∧ (z24 ∧ (True ∧ (pcond (xn == yn) (True ∧ (z16 ∧ (True ∧ (z11 ∧ (True ∧ (z11 ∧ ((z8 ∧ (z7 ∧ ((z18 ≤ z29) ∧ ((z19 ≤ z29) ∧ z34)))) ∧ ((((z37 = (u32s z5)) ∧ ((List.length (plusL z1 z2)) = (List.length z5))) ∧ ((List.length z5) ≤ z20)) ∧ (((((u32s (trimL z5)) = (u32s z21)) ∧ ((List.length (trimL z5)) = (List.length z21))) ∧ ((List.length z21) ≤ z20)) ∧ (True ∧ (True ∧ (z17 ∧ (True ∧ (z27 ∧ ((z9 ∧ True) ∧ (z12 ∧ ((D.tup [(D.agg [(D.v (Value.bool (Prod.fst z13))), (D.ro (List.length (Prod.fst z30)) (u32s (Prod.fst z30)))]), (D.v (Value.int IntKind.i64 (Prod.snd z30)))]) = z0))))))))))))))))) (True ∧ (z11 ∧ (True ∧ (z11 ∧ ((z8 ∧ z28) ∧ (True ∧ (pcond (Decidable.decide ((0 : Int) ≤ (cmpL z1 z2))) (True ∧ (z16 ∧ (True ∧ (z11 ∧ (True ∧ (z11 ∧ ((z8 ∧ (z7 ∧ (((z18 ≤ z29) ∧ ((z19 ≤ z18) ∧ z34)) ∧ ((nv z2) ≤ (nv z1))))) ∧ (((((u32s z25) = (u32s z3)) ∧ ((List.length z25) = (List.length z3))) ∧ ((List.length z3) ≤ z20)) ∧ (((((u32s (trimL z3)) = (u32s z22)) ∧ ((List.length (trimL z3)) = (List.length z22))) ∧ ((List.length z22) ≤ z20)) ∧ (True ∧ (True ∧ (z17 ∧ (True ∧ (z27 ∧ ((z9 ∧ True) ∧ (z12 ∧ ((D.tup [(D.agg [(D.v (Value.bool (Prod.fst z14))), (D.ro (List.length (Prod.fst z31)) (u32s (Prod.fst z31)))]), (D.v (Value.int IntKind.i64 (Prod.snd z31)))]) = z0))))))))))))))))) (True ∧ (z24 ∧ (True ∧ (z11 ∧ (True ∧ (z11 ∧ ((z7 ∧ (z8 ∧ (((z19 ≤ z29) ∧ ((z18 ≤ z19) ∧ ((Dig z2) ∧ (Dig z1)))) ∧ ((nv z1) ≤ (nv z2))))) ∧ (((((u32s z26) = (u32s z4)) ∧ ((List.length z26) = (List.length z4))) ∧ ((List.length z4) ≤ z20)) ∧ (((((u32s (trimL z4)) = (u32s z23)) ∧ ((List.length (trimL z4)) = (List.length z23))) ∧ ((List.length z23) ≤ z20)) ∧ (True ∧ (True ∧ (z17 ∧ (True ∧ (z27 ∧ ((z9 ∧ True) ∧ (z12 ∧ ((D.tup [(D.agg [(D.v (Value.bool (Prod.fst z15))), (D.ro (List.length (Prod.fst z32)) (u32s (Prod.fst z32)))]), (D.v (Value.int IntKind.i64 (Prod.snd z32)))]) = z0))))))))))))))))))))))))))))))))))))))))))))) (by kernel_rfl) ?_
  simp only [true_and, and_true, and_self, IsInt_lit, IsBool_lit, IsStr_lit, Bool.not_eq_true', Bool.not_eq_false', Bool.not_true, Bool.not_false, Int.reduceLE, Int.reduceLT, Int.reduceNeg, Nat.le_refl, Int.le_refl, Nat.reduceLT, Nat.reduceLeDiff, Nat.reduceEqDiff, D.v.injEq, D.tup.injEq, D.agg.injEq, D.ro.injEq, List.cons.injEq, Value.int.injEq, Value.bool.injEq, pcond_true, pcond_false, NamelessL, Nameless, Nat.reduceMul, Nat.reduceAdd, Nat.zero_add, Int.toNat_natCast, unu_u32s]
  obtain ⟨⟨lx, dx⟩, ly, dy⟩ := hpre
  refine ⟨by omega, pcond_intro (fun h => ?_) (fun h => ⟨by omega, pcond_intro (fun h2 => ?_) (fun h2 => ?_)⟩)⟩
  · simp only [Bool.not_eq_true'] at h; simp [arS, h, u32s]
  · simp only [Bool.not_eq_true', Bool.not_eq_false'] at h h2; simp [arS, h, h2, u32s]
  · simp only [Bool.not_eq_false'] at h h2
    have gx := (valid_good dx h).1
    have gy := (valid_good dy h2).1
    have hpl := plusL_len xs ys
    have hm : plusM xs ys ≤ 1000 := by unfold plusM; omega
    have hc : cmpL xs ys = cmpN (nv xs) (nv ys) := by rw [gx.1, gy.1, cmpL_dg, ← gx.1, ← gy.1]
    have tl : ∀ l : List Nat, (trimL l).length ≤ l.length := fun l => by rw [trimL_length]; exact tn_le _ _
    have lx2 := congrArg List.length gx.1
    have ly2 := congrArg List.length gy.1
    have ar : arS (validL xn xs && validL yn ys) (iv xn xs + iv yn ys) = okS (iv xn xs + iv yn ys) := by simp [arS, h, h2]
    rw [ar]
    refine pcond_intro (fun h3 => ?_) (fun h3 => ⟨by omega, pcond_intro (fun h4 => ?_) (fun h4 => ?_)⟩)
    · obtain ⟨m1, m2⟩ := add_same (by simpa using h3) dx dy
      rw [resG_ok m1 m2]
      have := tl (plusL xs ys)
      exact ⟨⟨by omega, by omega, dx, dy⟩, by omega, by omega, ⟨rfl, rfl, rfl⟩, rfl⟩
    · simp only [decide_eq_true_eq, hc] at h4
      have hle : nv ys ≤ nv xs := by unfold cmpN at h4; split at h4 <;> omega
      have hlm := dg_len_mono hle
      rw [← gx.1, ← gy.1] at hlm
      have hl2 := dg_len_mono (show nv xs - nv ys ≤ nv xs by omega)
      rw [← gx.1] at hl2
      obtain ⟨m1, m2⟩ := add_diff (xn := xn) (yn := yn) (by simpa using h3) hle
      rw [resG_ok m1 m2]
      have := tl (dg (nv xs - nv ys))
      exact ⟨⟨⟨by omega, hlm, dx, dy⟩, hle⟩, by omega, by omega, ⟨rfl, rfl, rfl⟩, rfl⟩
    · simp only [decide_eq_false_iff_not, hc] at h4
      have hle : nv xs ≤ nv ys := by unfold cmpN at h4; split at h4 <;> (try split at h4) <;> omega
      have hlm := dg_len_mono hle
      rw [← gx.1, ← gy.1] at hlm
      have hl2 := dg_len_mono (show nv ys - nv xs ≤ nv ys by omega)
      rw [← gy.1] at hl2
      obtain ⟨m1, m2⟩ := add_diff (xn := yn) (yn := xn) (by simp at h3; exact fun k => h3 k.symm) hle
      rw [Int.add_comm] at m1 m2
      rw [resG_ok m1 m2]
      have := tl (dg (nv ys - nv xs))
      exact ⟨⟨⟨by omega, hlm, dy, dx⟩, hle⟩, by omega, by omega, ⟨rfl, rfl, rfl⟩, rfl⟩
def ent_gAdd : Ent := fun ds => match ds with
  | [.agg [.v (.bool xn), .ro n_xs ys_xs], .agg [.v (.bool yn), .ro n_ys ys_ys]] => some (d_ar (arS (validL xn (unu ys_xs) && validL yn (unu ys_ys)) (iv xn (unu ys_xs) + iv yn (unu ys_ys))), (ys_ys = u32s (unu ys_ys) ∧ n_ys = (unu ys_ys).length) ∧ (ys_xs = u32s (unu ys_xs) ∧ n_xs = (unu ys_xs).length) ∧ LenOk (unu ys_xs) ∧ LenOk (unu ys_ys))
  | _ => none
theorem ent_gAdd_ok : EntOk Try.prog 30 ent_gAdd := by
  intro ds d c h hc; unfold ent_gAdd at h; split at h
  · rename_i xn n_xs ys_xs yn n_ys ys_ys; obtain ⟨rfl, rfl⟩ := pair_inj h
    obtain ⟨⟨h1, h2⟩, hc⟩ := hc; subst h2; generalize (unu ys_ys) = ys at *; subst h1
    obtain ⟨⟨h1, h2⟩, hc⟩ := hc; subst h2; generalize (unu ys_xs) = xs at *; subst h1
    exact gAdd_pure _ xs _ ys hc
  · cases h
theorem gMul_pure (xn : Bool) (xs : List Nat) (yn : Bool) (ys : List Nat) (hpre : LenOk xs ∧ LenOk ys) : PureJ Try.prog 32 [.agg [.v (.bool xn), .ro xs.length (u32s xs)], .agg [.v (.bool yn), .ro ys.length (u32s ys)]] (d_ar (arS (validL xn xs && validL yn ys) (iv xn xs * iv yn ys))) := by
  refine pureJ_of_vcpN (call := (addPure 21 ent_Valid (addPure 69 ent_times (addPure 60 ent_made (addPure 59 ent_gresult noCalls))))) (lp := fun _ => none) (N := 10) T_ok mixed (addPure_ok ent_Valid_ok (addPure_ok ent_times_ok (addPure_ok ent_made_ok (addPure_ok ent_gresult_ok noCalls_ok)))) Try.func32 rfl (by decide) (by kernel_rfl) (by kernel_rfl) (LpAllP.none _) (by (simp [NamelessL, Nameless, d_ar, d_int, u32s_nameless]; done)) (by (simp [NamelessL, Nameless, d_ar, d_int, u32s_nameless]; done)) ?_
  refine of_eq (B := letI z5 := (unu (u32s xs)); letI z6 := (unu (u32s ys)); letI z12 := (dg ((nv z5) * (nv z6))); letI z0 := (unu (u32s z12)); letI z3 := (arS ((validL xn xs) && (validL yn ys)) ((iv xn xs) * (iv yn ys))); letI z17 := (Prod.fst (Prod.snd z3)); letI z1 := (D.tup [(D.agg [(D.v (Value.bool (Prod.fst z3))), (D.ro (List.length z17) (u32s z17))]), (D.v (Value.int IntKind.i64 (Prod.snd (Prod.snd z3))))]); letI z7 := ((2 : Nat) ≤ (2 : Nat)); letI z13 := (((2 : Nat) = (2 : Nat)) ∧ z7); letI z11 := ((True ∧ (True ∧ True)) ∧ (True ∧ True)); letI z2 := (True ∧ (z13 ∧ (True ∧ ((z7 ∧ True) ∧ (z11 ∧ ((D.tup [(D.agg [(D.v (Value.bool Bool.false)), (D.ro (0 : Nat) ([] : List D))]), (D.v (Value.int IntKind.i64 (1 : Int)))]) = z1)))))); letI z10 := (unu (u32s (trimL z0))); letI z4 := (resG (madeN (!(xn == yn)) z0) z10); letI z14 := List.length z5; letI z8 := (((u32s xs) = (u32s z5)) ∧ ((List.length xs) = z14)); letI z15 := List.length z6; letI z9 := (((u32s ys) = (u32s z6)) ∧ ((List.length ys) = z15)); letI z16 := (Prod.fst (Prod.snd z4)); letI z18 := ((0 : Nat) < (2 : Nat)); letI z19 := ((1 : Nat) < (2 : Nat)); letI z20 := (1000000000000 : Nat); (True ∧ (True ∧ (True ∧ (True ∧ (z7 ∧ ((z8 ∧ (z14 ≤ z20)) ∧ (True ∧ (True ∧ (pcond (!(validL xn z5)) (True ∧ z2) (z7 ∧ ((z9 ∧ (z15 ≤ z20)) ∧ (True ∧ (True ∧ (pcond (!(validL yn z6)) z2 (True ∧ ((z18 ∧ (IsBool (D.v (Value.bool xn)))) ∧ (True ∧ ((z18 ∧ (IsBool (D.v (Value.bool yn)))) ∧ (True ∧ (True ∧ (z19 ∧ (True ∧ (z19 ∧ ((z9 ∧ (z8 ∧ ((z14 ≤ (400000 : Nat)) ∧ ((z15 ≤ (400000 : Nat)) ∧ ((Dig z5) ∧ (Dig z6)))))) ∧ (((((u32s z12) = (u32s z0)) ∧ ((List.length z12) = (List.length z0))) ∧ ((List.length z0) ≤ (1000000 : Nat))) ∧ (((((u32s (trimL z0)) = (u32s z10)) ∧ ((List.length (trimL z0)) = (List.length z10))) ∧ ((List.length z10) ≤ (1000000 : Nat))) ∧ (True ∧ (True ∧ (z13 ∧ (True ∧ ((Bool.true = Bool.true) ∧ ((z7 ∧ True) ∧ (z11 ∧ ((D.tup [(D.agg [(D.v (Value.bool (Prod.fst z4))), (D.ro (List.length z16) (u32s z16))]), (D.v (Value.int IntKind.i64 (Prod.snd (Prod.snd z4))))]) = z1))))))))))))))))))))))))))))))))))) (by kernel_rfl) ?_
  simp only [true_and, and_true, and_self, IsInt_lit, IsBool_lit, IsStr_lit, Bool.not_eq_true', Bool.not_eq_false', Bool.not_true, Bool.not_false, Int.reduceLE, Int.reduceLT, Int.reduceNeg, Nat.le_refl, Int.le_refl, Nat.reduceLT, Nat.reduceLeDiff, Nat.reduceEqDiff, D.v.injEq, D.tup.injEq, D.agg.injEq, D.ro.injEq, List.cons.injEq, Value.int.injEq, Value.bool.injEq, pcond_true, pcond_false, NamelessL, Nameless, Nat.reduceMul, Nat.reduceAdd, Nat.zero_add, Int.toNat_natCast, unu_u32s]
  obtain ⟨⟨lx, dx⟩, ly, dy⟩ := hpre
  refine ⟨by omega, pcond_intro (fun h => ?_) (fun h => ⟨by omega, pcond_intro (fun h2 => ?_) (fun h2 => ?_)⟩)⟩
  · simp only [Bool.not_eq_true'] at h; simp [arS, h, u32s]
  · simp only [Bool.not_eq_true', Bool.not_eq_false'] at h h2; simp [arS, h, h2, u32s]
  · simp only [Bool.not_eq_false'] at h h2
    have gx := (valid_good dx h).1
    have gy := (valid_good dy h2).1
    have hl := dg_mul_len dx dy
    have tl : (trimL (dg (nv xs * nv ys))).length ≤ (dg (nv xs * nv ys)).length := by rw [trimL_length]; exact tn_le _ _
    obtain ⟨m1, m2⟩ := mul_iv xn yn xs ys
    rw [show (!xn == yn) = (xn != yn) from rfl, resG_ok m1 m2]
    refine ⟨⟨by omega, by omega, dx, dy⟩, by omega, by omega, ?_⟩
    simp [arS, h, h2]
def ent_gMul : Ent := fun ds => match ds with
  | [.agg [.v (.bool xn), .ro n_xs ys_xs], .agg [.v (.bool yn), .ro n_ys ys_ys]] => some (d_ar (arS (validL xn (unu ys_xs) && validL yn (unu ys_ys)) (iv xn (unu ys_xs) * iv yn (unu ys_ys))), (ys_ys = u32s (unu ys_ys) ∧ n_ys = (unu ys_ys).length) ∧ (ys_xs = u32s (unu ys_xs) ∧ n_xs = (unu ys_xs).length) ∧ LenOk (unu ys_xs) ∧ LenOk (unu ys_ys))
  | _ => none
theorem ent_gMul_ok : EntOk Try.prog 32 ent_gMul := by
  intro ds d c h hc; unfold ent_gMul at h; split at h
  · rename_i xn n_xs ys_xs yn n_ys ys_ys; obtain ⟨rfl, rfl⟩ := pair_inj h
    obtain ⟨⟨h1, h2⟩, hc⟩ := hc; subst h2; generalize (unu ys_ys) = ys at *; subst h1
    obtain ⟨⟨h1, h2⟩, hc⟩ := hc; subst h2; generalize (unu ys_xs) = xs at *; subst h1
    exact gMul_pure _ xs _ ys hc
  · cases h
end Go.Proofs.Ythnhfkpihbjddaa
end
section
namespace Go.Proofs.Ythnhfkpihbjddaa
open Go.VD
set_option linter.unusedVariables false
set_option linter.unusedSimpArgs false
set_option maxRecDepth 100000
theorem cmpTop_self (xs : List Nat) : ∀ n, cmpTop xs xs n = 0
  | 0 => rfl
  | n + 1 => by unfold cmpTop; rw [if_neg (by omega), if_neg (by omega), cmpTop_self xs n]
theorem cmpL_self (xs : List Nat) : cmpL xs xs = 0 := by
  unfold cmpL; rw [if_neg (by simp)]; exact cmpTop_self xs _
theorem gSame_pure (xn : Bool) (xs : List Nat) (yn : Bool) (ys : List Nat) (hpre : xs.length ≤ 1000) : PureJ Try.prog 16 [.agg [.v (.bool xn), .ro xs.length (u32s xs)], .agg [.v (.bool yn), .ro ys.length (u32s ys)]] (.v (.bool ((xn == yn) && (cmpL xs ys == 0)))) := by
  refine pureJ_of_vcx (call := (addPure 61 ent_cmpr noCalls)) (lp := fun _ => none) (N := 10) T_ok mixed (addPure_ok ent_cmpr_ok noCalls_ok) Try.func16 rfl (by decide) (by kernel_rfl) (by kernel_rfl) (LpAll.none _) (by first | trivial | (simp only [NamelessL, Nameless, and_self, and_true, true_and]; done) | (simp [NamelessL, Nameless, u32s_nameless, namelessL_ints]; done)) (by first | trivial | (simp only [NamelessL, Nameless, and_self, and_true, true_and]; done) | (simp [NamelessL, Nameless, u32s_nameless, namelessL_ints]; done)) ?_
  refine of_eq (B := letI z0 := (D.v (Value.bool ((xn == yn) && ((cmpL xs ys) == (0 : Int))))); letI z1 := (unu (u32s xs)); letI z2 := (unu (u32s ys)); letI z3 := ((0 : Nat) < (2 : Nat)); letI z4 := ((1 : Nat) < (2 : Nat)); (True ∧ (True ∧ (True ∧ (True ∧ ((z3 ∧ (IsBool (D.v (Value.bool xn)))) ∧ (True ∧ ((z3 ∧ (IsBool (D.v (Value.bool yn)))) ∧ (True ∧ (True ∧ (pcond (xn == yn) (True ∧ (z4 ∧ (True ∧ (z4 ∧ (((((u32s ys) = (u32s z2)) ∧ ((List.length ys) = (List.length z2))) ∧ ((((u32s xs) = (u32s z1)) ∧ ((List.length xs) = (List.length z1))) ∧ ((List.length z1) ≤ (1000000000000 : Nat)))) ∧ (True ∧ (True ∧ (True ∧ (True ∧ (True ∧ ((D.v (Value.bool ((cmpL z1 z2) == (0 : Int)))) = z0))))))))))) (True ∧ (True ∧ (True ∧ (True ∧ ((D.v (Value.bool Bool.false)) = z0)))))))))))))))) (by kernel_rfl) ?_
  simp only [true_and, and_true, and_self, IsInt_lit, IsBool_lit, IsStr_lit, Bool.not_eq_true', Bool.not_eq_false', Bool.not_true, Bool.not_false, Int.reduceLE, Int.reduceLT, Int.reduceNeg, Nat.le_refl, Int.le_refl, Nat.reduceLT, Nat.reduceLeDiff, Nat.reduceEqDiff, D.v.injEq, D.tup.injEq, D.agg.injEq, D.ro.injEq, List.cons.injEq, Value.int.injEq, Value.bool.injEq, pcond_true, pcond_false, NamelessL, Nameless, Nat.reduceMul, Nat.reduceAdd, Nat.zero_add, Int.toNat_natCast, unu_u32s]
  refine pcond_intro (fun h => ?_) (fun h => ?_)
  · simp [h]; omega
  · simp [h]
def ent_gSame : Ent := fun ds => match ds with
  | [.agg [.v (.bool xn), .ro n_xs ys_xs], .agg [.v (.bool yn), .ro n_ys ys_ys]] => some (.v (.bool ((xn == yn) && (cmpL (unu ys_xs) (unu ys_ys) == 0))), (ys_ys = u32s (unu ys_ys) ∧ n_ys = (unu ys_ys).length) ∧ (ys_xs = u32s (unu ys_xs) ∧ n_xs = (unu ys_xs).length) ∧ (unu ys_xs).length ≤ 1000)
  | _ => none
theorem ent_gSame_ok : EntOk Try.prog 16 ent_gSame := by
  intro ds d c h hc; unfold ent_gSame at h; split at h
  · rename_i xn n_xs ys_xs yn n_ys ys_ys; obtain ⟨rfl, rfl⟩ := pair_inj h
    obtain ⟨⟨h1, h2⟩, hc⟩ := hc; subst h2; generalize (unu ys_ys) = ys at *; subst h1
    obtain ⟨⟨h1, h2⟩, hc⟩ := hc; subst h2; generalize (unu ys_xs) = xs at *; subst h1
    exact gSame_pure _ xs _ ys hc
  · cases h
theorem gLarge_pure (xn : Bool) (xs : List Nat) (yn : Bool) (ys : List Nat) : PureJ Try.prog 12 [.ro 2 [.v (.bool xn), .ro xs.length (u32s xs), .v (.bool yn), .ro ys.length (u32s ys)]] (.v (.bool (decide (40 < xs.length) || decide (40 < ys.length)))) := by
  refine pureJ_of_vcx (call := noCalls) (lp := fun _ => none) (N := 4) T_ok mixed noCalls_ok Try.func12 rfl (by decide) (by kernel_rfl) (by kernel_rfl) (LpAll.none _) (by first | trivial | (simp only [NamelessL, Nameless, and_self, and_true, true_and]; done) | (simp [NamelessL, Nameless, u32s_nameless, namelessL_ints]; done)) (by first | trivial | (simp only [NamelessL, Nameless, and_self, and_true, true_and]; done) | (simp [NamelessL, Nameless, u32s_nameless, namelessL_ints]; done)) ?_
  refine of_eq (B := letI z0 := (D.v (Value.bool ((Decidable.decide ((40 : Nat) < (List.length xs))) || (Decidable.decide ((40 : Nat) < (List.length ys)))))); letI z1 := (True ∧ (True ∧ (True ∧ ((D.v (Value.bool Bool.true)) = z0)))); (True ∧ (True ∧ (True ∧ (True ∧ (True ∧ (True ∧ (True ∧ (True ∧ ((((0 : Int) ≤ (0 : Int)) ∧ ((0 : Int) < (2 : Int))) ∧ (True ∧ (((1 : Nat) < (4 : Nat)) ∧ (True ∧ (True ∧ (pcond (Decidable.decide ((40 : Int) < (((List.length xs) : Nat) : Int))) z1 (True ∧ (True ∧ (True ∧ (True ∧ (True ∧ (True ∧ (True ∧ (True ∧ (True ∧ ((((0 : Int) ≤ (1 : Int)) ∧ ((1 : Int) < (2 : Int))) ∧ (True ∧ (((3 : Nat) < (4 : Nat)) ∧ (True ∧ (True ∧ (pcond (Decidable.decide ((40 : Int) < (((List.length ys) : Nat) : Int))) z1 (True ∧ (True ∧ (True ∧ (True ∧ (True ∧ (True ∧ (True ∧ (True ∧ (True ∧ (True ∧ ((D.v (Value.bool Bool.false)) = z0))))))))))))))))))))))))))))))))))))))))) (by kernel_rfl) ?_
  simp only [true_and, and_true, and_self, IsInt_lit, IsBool_lit, IsStr_lit, Bool.not_eq_true', Bool.not_eq_false', Bool.not_true, Bool.not_false, Int.reduceLE, Int.reduceLT, Int.reduceNeg, Nat.le_refl, Int.le_refl, Nat.reduceLT, Nat.reduceLeDiff, Nat.reduceEqDiff, D.v.injEq, D.tup.injEq, D.agg.injEq, D.ro.injEq, List.cons.injEq, Value.int.injEq, Value.bool.injEq, pcond_true, pcond_false, NamelessL, Nameless, Nat.reduceMul, Nat.reduceAdd, Nat.zero_add, Int.toNat_natCast, unu_u32s]
  have e : ∀ n : Nat, decide ((40 : Int) < (n : Int)) = decide (40 < n) := fun n => by rw [decide_eq_decide]; omega
  rw [e, e]
  refine pcond_intro (fun h => ?_) (fun h => pcond_intro (fun h2 => ?_) (fun h2 => ?_)) <;> simp [*]
def ent_gLarge : Ent := fun ds => match ds with
  | [.ro 2 [.v (.bool xn), .ro n_xs ys_xs, .v (.bool yn), .ro n_ys ys_ys]] => some (.v (.bool (decide (40 < (unu ys_xs).length) || decide (40 < (unu ys_ys).length))), (ys_ys = u32s (unu ys_ys) ∧ n_ys = (unu ys_ys).length) ∧ (ys_xs = u32s (unu ys_xs) ∧ n_xs = (unu ys_xs).length) ∧ True)
  | _ => none
theorem ent_gLarge_ok : EntOk Try.prog 12 ent_gLarge := by
  intro ds d c h hc; unfold ent_gLarge at h; split at h
  · rename_i xn n_xs ys_xs yn n_ys ys_ys; obtain ⟨rfl, rfl⟩ := pair_inj h
    obtain ⟨⟨h1, h2⟩, hc⟩ := hc; subst h2; generalize (unu ys_ys) = ys at *; subst h1
    obtain ⟨⟨h1, h2⟩, hc⟩ := hc; subst h2; generalize (unu ys_xs) = xs at *; subst h1
    exact gLarge_pure _ xs _ ys
  · cases h
theorem lsame_pure (xn : Bool) (xs : List Nat) (e : Int) (yn : Bool) (ys : List Nat) (f : Int) (hpre : xs.length ≤ 1000) : PureJ Try.prog 15 [.agg [.v (.bool xn), .ro xs.length (u32s xs)], .v (.int .i64 e), .agg [.v (.bool yn), .ro ys.length (u32s ys)], .v (.int .i64 f)] (.v (.bool ((e == f) && ((xn == yn) && (cmpL xs ys == 0))))) := by
  refine pureJ_of_vcx (call := (addPure 16 ent_gSame noCalls)) (lp := fun _ => none) (N := 10) T_ok mixed (addPure_ok ent_gSame_ok noCalls_ok) Try.func15 rfl (by decide) (by kernel_rfl) (by kernel_rfl) (LpAll.none _) (by first | trivial | (simp only [NamelessL, Nameless, and_self, and_true, true_and]; done) | (simp [NamelessL, Nameless, u32s_nameless, namelessL_ints]; done)) (by first | trivial | (simp only [NamelessL, Nameless, and_self, and_true, true_and]; done) | (simp [NamelessL, Nameless, u32s_nameless, namelessL_ints]; done)) ?_
  refine of_eq (B := letI z0 := (D.v (Value.bool ((e == f) && ((xn == yn) && ((cmpL xs ys) == (0 : Int)))))); letI z1 := (unu (u32s xs)); letI z2 := (unu (u32s ys)); letI z3 := ((2 : Nat) ≤ (2 : Nat)); (True ∧ (True ∧ (True ∧ (True ∧ (True ∧ (True ∧ (True ∧ (pcond (e == f) (z3 ∧ (z3 ∧ (((((u32s ys) = (u32s z2)) ∧ ((List.length ys) = (List.length z2))) ∧ ((((u32s xs) = (u32s z1)) ∧ ((List.length xs) = (List.length z1))) ∧ ((List.length z1) ≤ (1000 : Nat)))) ∧ (True ∧ (True ∧ (True ∧ (True ∧ ((D.v (Value.bool ((xn == yn) && ((cmpL z1 z2) == (0 : Int))))) = z0)))))))) (True ∧ (True ∧ (True ∧ (True ∧ ((D.v (Value.bool Bool.false)) = z0)))))))))))))) (by kernel_rfl) ?_
  simp only [true_and, and_true, and_self, IsInt_lit, IsBool_lit, IsStr_lit, Bool.not_eq_true', Bool.not_eq_false', Bool.not_true, Bool.not_false, Int.reduceLE, Int.reduceLT, Int.reduceNeg, Nat.le_refl, Int.le_refl, Nat.reduceLT, Nat.reduceLeDiff, Nat.reduceEqDiff, D.v.injEq, D.tup.injEq, D.agg.injEq, D.ro.injEq, List.cons.injEq, Value.int.injEq, Value.bool.injEq, pcond_true, pcond_false, NamelessL, Nameless, Nat.reduceMul, Nat.reduceAdd, Nat.zero_add, Int.toNat_natCast, unu_u32s]
  refine pcond_intro (fun h => ⟨hpre, ?_⟩) (fun h => ?_) <;> simp [h]
def ent_lsame : Ent := fun ds => match ds with
  | [.agg [.v (.bool xn), .ro n_xs ys_xs], .v (.int .i64 e), .agg [.v (.bool yn), .ro n_ys ys_ys], .v (.int .i64 f)] => some (.v (.bool ((e == f) && ((xn == yn) && (cmpL (unu ys_xs) (unu ys_ys) == 0)))), (ys_ys = u32s (unu ys_ys) ∧ n_ys = (unu ys_ys).length) ∧ (ys_xs = u32s (unu ys_xs) ∧ n_xs = (unu ys_xs).length) ∧ (unu ys_xs).length ≤ 1000)
  | _ => none
theorem ent_lsame_ok : EntOk Try.prog 15 ent_lsame := by
  intro ds d c h hc; unfold ent_lsame at h; split at h
  · rename_i xn n_xs ys_xs e yn n_ys ys_ys f; obtain ⟨rfl, rfl⟩ := pair_inj h
    obtain ⟨⟨h1, h2⟩, hc⟩ := hc; subst h2; generalize (unu ys_ys) = ys at *; subst h1
    obtain ⟨⟨h1, h2⟩, hc⟩ := hc; subst h2; generalize (unu ys_xs) = xs at *; subst h1
    exact lsame_pure _ xs _ _ ys _ hc
  · cases h
theorem okS_len (v : Int) : (okS v).2.1.length ≤ 400 := by
  unfold okS
  by_cases h : (ofL v).length ≤ 400 <;> simp [h]
theorem arS_len (b : Bool) (v : Int) : (arS b v).2.1.length ≤ 400 := by
  unfold arS
  cases b with
  | false => simp
  | true => exact okS_len v
end Go.Proofs.Ythnhfkpihbjddaa
end
section
namespace Go.Proofs.Ythnhfkpihbjddaa
open Go.VD
set_option linter.unusedVariables false
set_option linter.unusedSimpArgs false
set_option maxRecDepth 100000
end Go.Proofs.Ythnhfkpihbjddaa
end
