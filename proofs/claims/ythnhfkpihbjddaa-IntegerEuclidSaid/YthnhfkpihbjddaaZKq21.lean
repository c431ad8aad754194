import Derived.Test.YthnhfkpihbjddaaZKq13
import Derived.Test.YthnhfkpihbjddaaZKq9
import Derived.Test.YthnhfkpihbjddaaZKq20
import Derived.Test.YthnhfkpihbjddaaZKq17
section
namespace Go.Proofs.Ythnhfkpihbjddaa
open Go.VD
set_option linter.unusedVariables false
set_option linter.unusedSimpArgs false
set_option maxRecDepth 100000
def quoT (xs : List Nat) (d k : Nat) : List Nat := List.replicate k 0 ++ (dgn xs.length (nv xs / d)).drop k
theorem quoT_length {xs : List Nat} {d k : Nat} (h : k ≤ xs.length) : (quoT xs d k).length = xs.length := by
  simp [quoT, dgn_length]; omega
theorem quoT_set {xs : List Nat} {d k : Nat} (hz : Dig xs) (hd : 0 < d) (hk : k < xs.length) : (quoT xs d (k + 1)).set k ((remT xs xs.length d (k + 1) * 4294967296 + xs.getD k 0) / d) = quoT xs d k := by
  rw [quo_digit hz (Nat.le_refl _) hd hk, List.take_length]
  have e2 : (dgn xs.length (nv xs / d)).drop k = (nv xs / d / 4294967296 ^ k % 4294967296) :: (dgn xs.length (nv xs / d)).drop (k + 1) := by
    rw [List.drop_eq_getElem_cons (by rw [dgn_length]; exact hk)]
    congr 1
    rw [← dgn_getD xs.length _ k hk, List.getD_eq_getElem?_getD, List.getElem?_eq_getElem (by rw [dgn_length]; exact hk)]; rfl
  unfold quoT
  rw [e2, List.replicate_succ', List.append_assoc, List.set_append_right _ _ (by simp)]
  simp
def lp_shortLoop (xs : List Nat) (d : Nat) : LoopO := loopRule (α := Nat) (β := Unit) [some 0] (fun k => k ≤ xs.length) (fun k => [(0, .ro xs.length (u32s xs)), (1, .v (.int .u32 (d : Int))), (6, d_out xs.length), (7, .v (.int .u64 (remT xs xs.length d k : Nat))), (8, .v (.int .i64 ((k : Int) - 1)))]) (fun k => d_blk (quoT xs d k)) (xs.length) (fun _ => True) (fun _ => (.exit 0, [(6, d_out xs.length), (7, .v (.int .u64 (nv xs % d : Nat)))], d_blk (dgn xs.length (nv xs / d))))
theorem shortLoop_rule (xs : List Nat) (d : Nat) (hpre : xs.length ≤ 400000 ∧ Dig xs ∧ 0 < d ∧ d < 4294967296) : LRuleP Try.prog Try.f98.ntmps (loopAt ((Try.f98.body).getD .skip) 4) (lp_shortLoop xs d) := by
  refine lrule_of (α := Nat) (β := Unit) (call := noCalls) (lp := fun _ => none) (N := 10) T_ok mixed noCalls_ok (fun k => k) (by kernel_rfl) (LpAllP.none _) ?_
  intro x hJ
  refine of_eq (B := letI z0 := (((x : Nat) : Int) - (1 : Int)); letI z3 := List.length xs; letI z13 := (((remT xs z3 d x) : Nat) : Int); letI z5 := ((Int.toNat z0) * (1 : Nat)); letI z9 := (List.getD (u32s xs) z5 (Inhabited.default)); letI z1 := (bits BinOp.or IntKind.u64 (IntKind.wrap IntKind.u64 (z13 * (4294967296 : Int))) (IntKind.wrap IntKind.u64 (cellInt z9))); letI z11 := (Exit.exit (0 : Nat)); letI z14 := (Prod.mk (6 : Nat) (d_out z3)); letI z2 := (Prod.mk z11 (Prod.mk [z14, (Prod.mk (7 : Nat) (D.v (Value.int IntKind.u64 ((((nv xs) % d) : Nat) : Int))))] (d_blk (dgn z3 ((nv xs) / d))))); letI z4 := (IntKind.wrap IntKind.u64 ((d : Nat) : Int)); letI z6 := (Prod.mk (6 : Nat) (D.sl (0 : Nat) (0 : Nat) z3 (Cap.toEnd (1 : Nat)))); letI z7 := (Prod.mk (1 : Nat) (D.v (Value.int IntKind.u32 ((d : Nat) : Int)))); letI z8 := (((0 : Int) ≤ z0) ∧ (z0 < ((z3 : Nat) : Int))); letI z10 := (Prod.mk (0 : Nat) (D.ro z3 (u32s xs))); letI z12 := (u32s (quoT xs d x)); letI z15 := (List (Option Nat)); (True ∧ (True ∧ (pcond (Decidable.decide ((0 : Int) ≤ z0)) (True ∧ (((0 : Int) ≤ (32 : Int)) ∧ (True ∧ (True ∧ (z8 ∧ (((z5 < (List.length (u32s xs))) ∧ (IsInt IntKind.u32 z9)) ∧ (True ∧ (True ∧ (True ∧ (True ∧ (True ∧ (True ∧ (True ∧ (True ∧ ((z4 ≠ (0 : Int)) ∧ (True ∧ (z8 ∧ ((((1 : Nat) = (1 : Nat)) ∧ ((((0 : Nat) + z5) + (1 : Nat)) ≤ (List.length z12))) ∧ (True ∧ (True ∧ (True ∧ ((z4 ≠ (0 : Int)) ∧ (True ∧ (True ∧ (True ∧ (True ∧ (∃ (y : Nat), (∃ (kp : z15), ((y < x) ∧ ((y ≤ z3) ∧ (viewAll kp [z10, z7, z6, (Prod.mk (7 : Nat) (D.v (Value.int IntKind.u64 (Int.tmod z1 z4)))), (Prod.mk (8 : Nat) (D.v (Value.int IntKind.i64 (IntKind.wrap IntKind.i64 (z0 - (1 : Int))))))] [(Option.some (Blk.mk (41 : Nat) (List.set z12 ((0 : Nat) + z5) (D.v (Value.int IntKind.u32 (IntKind.wrap IntKind.u32 (IntKind.wrap IntKind.u64 (Int.tdiv z1 z4)))))) Bool.true))] [z10, z7, z14, (Prod.mk (7 : Nat) (D.v (Value.int IntKind.u64 (((remT xs z3 d y) : Nat) : Int)))), (Prod.mk (8 : Nat) (D.v (Value.int IntKind.i64 (((y : Nat) : Int) - (1 : Int)))))] (d_blk (quoT xs d y))))))))))))))))))))))))))))))))) (∃ (r : Unit), (∃ (kp : z15), (True ∧ ((z11 = z11) ∧ (viewAll kp [z6, (Prod.mk (7 : Nat) (D.v (Value.int IntKind.u64 z13)))] [(Option.some (Blk.mk (41 : Nat) z12 Bool.true))] (Prod.fst (Prod.snd ((fun (x_1 : Unit) => z2) r))) (Prod.snd (Prod.snd ((fun (x_1 : Unit) => z2) r)))))))))))) (by kernel_rfl) ?_
  obtain ⟨hb, hz, hd, hd2⟩ := hpre
  simp only [true_and, and_true, and_self, IsInt_lit, IsBool_lit, IsStr_lit, Bool.not_eq_true', Bool.not_eq_false', Bool.not_true, Bool.not_false, Int.reduceLE, Int.reduceLT, Int.reduceNeg, Nat.le_refl, Int.le_refl, Nat.reduceLT, Nat.reduceLeDiff, Nat.reduceEqDiff, D.v.injEq, D.tup.injEq, D.agg.injEq, D.ro.injEq, List.cons.injEq, Value.int.injEq, Value.bool.injEq, pcond_true, pcond_false, NamelessL, Nameless, Nat.reduceMul, Nat.reduceAdd, Nat.zero_add, Int.toNat_natCast]
  refine pcond_intro (fun h => ?_) (fun h => ?_)
  · simp only [decide_eq_true_eq] at h
    obtain ⟨j, rfl⟩ : ∃ j, x = j + 1 := ⟨x - 1, by omega⟩
    have e : ((j + 1 : Nat) : Int) - 1 = (j : Int) := by omega
    have w : IntKind.i64.wrap ((j : Int) - 1) = (j : Int) - 1 := wrap_i64_of (by omega) (by omega)
    have hlen := quoT_length (d := d) hJ
    have hs := quoT_set (k := j) hz hd (by omega)
    have hr := remT_succ (zs := xs) (d := d) (show j < xs.length by omega)
    have hrl := remT_lt (zs := xs) (n := xs.length) (k := j + 1) hd
    have hq := quo_lt (n := xs.length) (k := j) hz hd
    have hx := hz.get j
    have e0 := or_shift (a := remT xs xs.length d (j + 1)) (b := xs.getD j 0) (by omega) hx
    have w1 : IntKind.u64.wrap ((d : Nat) : Int) = (d : Nat) := by rw [wrap_u64]; omega
    rw [show remT xs xs.length d (j + 1) * 4294967296 + xs.getD j 0 = xs.getD j 0 + 4294967296 * remT xs xs.length d (j + 1) by omega] at hs hr hq
    simp only [e, w, w1, e0, Int.toNat_natCast, Nat.mul_one, u32s_cell, u32s_length, hlen, u32s_isInt xs j (by omega), and_true]
    generalize hV : xs.getD j 0 + 4294967296 * remT xs xs.length d (j + 1) = v at *
    have hq2 : v / d < 4294967296 := by rw [Nat.div_lt_iff_lt_mul hd]; omega
    have g1 : IntKind.u32.wrap (IntKind.u64.wrap (((v : Nat) : Int).tdiv (d : Nat))) = ((v / d : Nat) : Int) := by
      rw [Int.tdiv_eq_ediv_of_nonneg (by omega), ← Int.natCast_ediv, wrap_u64, wrap_u32]; generalize v / d = q at *; omega
    have g2 : ((v : Nat) : Int).tmod (d : Nat) = ((v % d : Nat) : Int) := by
      rw [Int.tmod_eq_emod_of_nonneg (by omega), ← Int.natCast_emod]
    simp only [g1, g2, hr, u32s_put, hs]
    refine ⟨⟨by omega, by omega⟩, by omega, by omega, ⟨by omega, by omega⟩, by omega, by omega, j, [some 0], by omega, by omega, ?_⟩
    refine of_eq (B := letI z5 := List.length xs; letI z0 := (D.v (Value.int IntKind.u64 (((remT xs z5 d j) : Nat) : Int))); letI z1 := (D.sl (0 : Nat) (0 : Nat) z5 (Cap.toEnd (1 : Nat))); letI z7 := (u32s (quoT xs d j)); letI z2 := (Option.some (Blk.mk (41 : Nat) z7 Bool.true)); letI z3 := (D.v (Value.int IntKind.i64 (((j : Nat) : Int) - (1 : Int)))); letI z4 := (D.v (Value.int IntKind.u32 ((d : Nat) : Int))); letI z6 := ([] : List (Option Blk)); letI z8 := (D.ro z5 (u32s xs)); ((Bool.true = Bool.true) ∧ ((((z2 = z2) ∧ (NamelessL z7)) ∧ (z6 = z6)) ∧ ((True ∧ (z8 = z8)) ∧ ((True ∧ (z4 = z4)) ∧ ((True ∧ (z1 = z1)) ∧ ((True ∧ (z0 = z0)) ∧ ((True ∧ (z3 = z3)) ∧ True)))))))) (by kernel_rfl) ?_
    simp [u32s_nameless]
  · simp only [decide_eq_false_iff_not] at h
    have : x = 0 := by omega
    subst this
    refine ⟨(), [some 0], ?_⟩
    refine of_eq (B := letI z1 := List.length xs; letI z0 := (D.sl (0 : Nat) (0 : Nat) z1 (Cap.toEnd (1 : Nat))); letI z2 := (u32s (quoT xs d (0 : Nat))); letI z3 := ([] : List (Option Blk)); ((Bool.true = Bool.true) ∧ (((((Option.some (Blk.mk (41 : Nat) (u32s (dgn z1 ((nv xs) / d))) Bool.true)) = (Option.some (Blk.mk (41 : Nat) z2 Bool.true))) ∧ (NamelessL z2)) ∧ (z3 = z3)) ∧ ((True ∧ (z0 = z0)) ∧ ((True ∧ ((D.v (Value.int IntKind.u64 (((remT xs z1 d (0 : Nat)) : Nat) : Int))) = (D.v (Value.int IntKind.u64 ((((nv xs) % d) : Nat) : Int))))) ∧ True))))) (by kernel_rfl) ?_
    simp [u32s_nameless, quoT, remT]
theorem short_pure (xs : List Nat) (d : Int) (hpre : (xs.length ≤ 400000 ∧ Dig xs) ∧ 0 < d ∧ d < 4294967296) : PureJ Try.prog 98 [.ro xs.length (u32s xs), .v (.int .u32 d)] (.tup [.ro (dg (nv xs / d.toNat)).length (u32s (dg (nv xs / d.toNat))), .v (.int .u32 (nv xs % d.toNat : Nat))]) := by
  refine pureJ_of_vcp (call := (addPure 56 ent_trim noCalls)) (lp := fun k => bif Nat.beq k 4 then some (lp_shortLoop xs d.toNat) else none) (N := 10) T_ok mixed (addPure_ok ent_trim_ok noCalls_ok) Try.func98 rfl (by decide) (by kernel_rfl) (by kernel_rfl) (of_eq (B := LRuleP Try.prog Try.f98.ntmps (loopAt ((Try.f98.body).getD .skip) 4) (lp_shortLoop xs d.toNat) ∧ True) (by kernel_rfl) ⟨shortLoop_rule xs d.toNat ⟨hpre.1.1, hpre.1.2, by omega, by omega⟩, trivial⟩) (by (simp [NamelessL, Nameless, u32s_nameless]; done)) (by (simp [NamelessL, Nameless, u32s_nameless]; done)) ?_
  refine of_eq (B := letI z1 := List.length xs; letI z3 := ((nv xs) / (Int.toNat d)); letI z6 := (u32s (dgn z1 z3)); letI z0 := (List.take (z1 * (1 : Nat)) (List.drop (0 : Nat) z6)); letI z2 := ((z1 : Nat) : Int); letI z4 := (List.replicate (Int.toNat z2) (D.v (Value.int IntKind.u32 (0 : Int)))); letI z5 := ((((nv xs) % (Int.toNat d)) : Nat) : Int); letI z7 := ([] : List (Option Blk)); letI z8 := (List.length (unu z0)); letI z9 := (Cap.toEnd (1 : Nat)); letI z10 := (D.ro z1 (u32s xs)); (True ∧ (True ∧ (True ∧ (True ∧ ((((0 : Int) ≤ z2) ∧ ((z2 ≤ z2) ∧ ((((4 : Int) * z2) ≤ (281474976710656 : Int)) ∧ (z2 ≤ (9223372036854775807 : Int))))) ∧ (True ∧ (True ∧ (True ∧ (True ∧ (True ∧ (True ∧ ((z1 ≤ z1) ∧ (((Bool.true = Bool.true) ∧ (((((Option.some (Blk.mk (41 : Nat) (u32s (quoT xs (Int.toNat d) z1)) Bool.true)) = (Option.some (Blk.mk (41 : Nat) z4 Bool.true))) ∧ (NamelessL z4)) ∧ (z7 = z7)) ∧ ((True ∧ (z10 = z10)) ∧ ((True ∧ ((D.v (Value.int IntKind.u32 d)) = (D.v (Value.int IntKind.u32 (((Int.toNat d) : Nat) : Int))))) ∧ ((True ∧ ((D.sl (0 : Nat) (0 : Nat) (Int.toNat z2) z9) = (D.sl (0 : Nat) (0 : Nat) z1 z9))) ∧ ((True ∧ ((D.v (Value.int IntKind.u64 (0 : Int))) = (D.v (Value.int IntKind.u64 (((remT xs z1 (Int.toNat d) z1) : Nat) : Int))))) ∧ ((True ∧ ((D.v (Value.int IntKind.i64 (IntKind.wrap IntKind.i64 (z2 - (1 : Int))))) = (D.v (Value.int IntKind.i64 (z2 - (1 : Int)))))) ∧ True))))))) ∧ (Unit → (True → (True ∧ (((((NamelessL z6) ∧ (((0 : Nat) < (1 : Nat)) ∧ (((0 : Nat) + (z1 * (1 : Nat))) ≤ (List.length z6)))) ∧ True) ∧ (((z0 = (u32s (unu z0))) ∧ (z1 = z8)) ∧ (z8 ≤ (1000000 : Nat)))) ∧ (True ∧ (True ∧ (True ∧ (True ∧ (True ∧ ((True ∧ (True ∧ True)) ∧ ((D.tup [(D.ro (List.length (trimL (unu z0))) (u32s (trimL (unu z0)))), (D.v (Value.int IntKind.u32 (IntKind.wrap IntKind.u32 z5)))]) = (D.tup [(D.ro (List.length (dg z3)) (u32s (dg z3))), (D.v (Value.int IntKind.u32 z5))])))))))))))))))))))))))))) (by kernel_rfl) ?_
  simp only [true_and, and_true, and_self, IsInt_lit, IsBool_lit, IsStr_lit, Bool.not_eq_true', Bool.not_eq_false', Bool.not_true, Bool.not_false, Int.reduceLE, Int.reduceLT, Int.reduceNeg, Nat.le_refl, Int.le_refl, Nat.reduceLT, Nat.reduceLeDiff, Nat.reduceEqDiff, D.v.injEq, D.tup.injEq, D.agg.injEq, D.ro.injEq, List.cons.injEq, Value.int.injEq, Value.bool.injEq, pcond_true, pcond_false, NamelessL, Nameless, Nat.reduceMul, Nat.reduceAdd, Nat.zero_add, Int.toNat_natCast, unu_u32s]
  obtain ⟨⟨hb, hz⟩, hd0, hd1⟩ := hpre
  obtain ⟨d, rfl⟩ := Int.eq_ofNat_of_zero_le (show 0 ≤ d by omega)
  simp only [Int.toNat_natCast, Int.ofNat_eq_natCast]
  have hdl : (dgn xs.length (nv xs / d)).length = xs.length := dgn_length _ _
  have e0 : List.replicate xs.length (D.v (Value.int IntKind.u32 0)) = u32s (List.replicate xs.length 0) := u32s_replicate _ 0
  have e1 : quoT xs d xs.length = List.replicate xs.length 0 := by
    unfold quoT; rw [List.drop_of_length_le (by omega), List.append_nil]
  have e2 : remT xs xs.length d xs.length = 0 := (divT_start (Nat.le_refl _)).2
  have e3 : IntKind.i64.wrap ((xs.length : Int) - 1) = (xs.length : Int) - 1 := wrap_i64_of (by omega) (by omega)
  have e4 : List.take xs.length (u32s (dgn xs.length (nv xs / d))) = u32s (dgn xs.length (nv xs / d)) := by
    rw [u32s_take, List.take_of_length_le (by omega)]
  have hm : nv xs % d < d := Nat.mod_lt _ (by omega)
  have hq : nv xs / d < 4294967296 ^ xs.length := Nat.lt_of_le_of_lt (Nat.div_le_self _ _) (nv_lt hz)
  have ht := trimL_dgn hq
  simp only [e0, e1, e2, e3, e4, Nat.mul_one, List.drop_zero, unu_u32s, u32s_length, hdl, ht]
  refine ⟨⟨by omega, by omega, by omega⟩, ⟨⟨trivial, u32s_nameless _⟩, trivial, rfl, trivial⟩, fun _ _ => ⟨⟨⟨u32s_nameless _, by omega⟩, ⟨trivial, trivial⟩, by omega⟩, ⟨trivial, trivial⟩, ?_⟩⟩
  rw [wrap_u32]; omega
def ent_short : Ent := fun ds => match ds with
  | [.ro n_xs ys_xs, .v (.int .u32 d)] => some (.tup [.ro (dg (nv (unu ys_xs) / d.toNat)).length (u32s (dg (nv (unu ys_xs) / d.toNat))), .v (.int .u32 (nv (unu ys_xs) % d.toNat : Nat))], (ys_xs = u32s (unu ys_xs) ∧ n_xs = (unu ys_xs).length) ∧ ((unu ys_xs).length ≤ 400000 ∧ Dig (unu ys_xs)) ∧ 0 < d ∧ d < 4294967296)
  | _ => none
theorem ent_short_ok : EntOk Try.prog 98 ent_short := by
  intro ds d c h hc; unfold ent_short at h; split at h
  · rename_i n_xs ys_xs d; obtain ⟨rfl, rfl⟩ := pair_inj h
    obtain ⟨⟨h1, h2⟩, hc⟩ := hc; subst h2; generalize (unu ys_xs) = xs at *; subst h1
    exact short_pure xs _ hc
  · cases h
end Go.Proofs.Ythnhfkpihbjddaa
end
section
namespace Go.Proofs.Ythnhfkpihbjddaa
open Go.VD
set_option linter.unusedVariables false
set_option linter.unusedSimpArgs false
set_option maxRecDepth 100000
theorem and31 {a : Nat} (h : a < 4294967296) : Go.bits .and .u32 (a : Int) 2147483648 = if 2147483648 ≤ a then 2147483648 else 0 := by
  have := bits_and_u32_nat a 2147483648 h (by decide)
  rw [show (2147483648 : Int) = ((2147483648 : Nat) : Int) by rfl, this]
  have e : a &&& 2147483648 = if 2147483648 ≤ a then 2147483648 else 0 := by
    apply Nat.eq_of_testBit_eq
    intro i
    rw [Nat.testBit_and]
    have h2 : (2147483648 : Nat) = 2 ^ 31 := rfl
    by_cases hi : i = 31
    · subst hi
      rw [top32 a h]
      split
      · rename_i h3; simp [h3]
      · rename_i h3; simp [h3]
    · have h4 : Nat.testBit 2147483648 i = false := by
        rw [h2, Nat.testBit_two_pow]; simp; omega
      rw [h4]
      split <;> simp [h4]
  rw [e]; split <;> rfl
theorem top_shift {d x : Nat} (hd : d ≠ 0) (hd2 : d < 4294967296) (hx : x ≤ 32 - bl d) : d * 2 ^ x < 4294967296 ∧ (2147483648 ≤ d * 2 ^ x ↔ x = 32 - bl d) := by
  obtain ⟨b1, b2⟩ := bl_le hd
  have b3 := bl_lt d
  have b4 := bl32 hd2
  have hp : 0 < 2 ^ x := Nat.pow_pos (by decide)
  have u1 : d * 2 ^ x < 2 ^ (bl d + x) := by rw [Nat.pow_add]; exact Nat.mul_lt_mul_of_pos_right b3 hp
  refine ⟨Nat.lt_of_lt_of_le u1 (Nat.pow_le_pow_right (show 0 < 2 by decide) (show bl d + x ≤ 32 by omega)), fun h => ?_, fun h => ?_⟩
  · refine Classical.byContradiction fun hne => ?_
    have := Nat.pow_le_pow_right (show 0 < 2 by decide) (show bl d + x ≤ 31 by omega)
    omega
  · have h1 : 2 ^ (bl d - 1) * 2 ^ x ≤ d * 2 ^ x := Nat.mul_le_mul_right _ b2
    rw [← Nat.pow_add, show bl d - 1 + x = 31 by omega] at h1
    exact h1
def lp_gnormLoop (xs ys : List Nat) : LoopO := loopRule (α := Nat) (β := Unit) [] (fun n => n ≤ dsh ys) (fun n => [(0, .ro xs.length (u32s xs)), (1, .ro ys.length (u32s ys)), (8, .v (.int .i64 (n : Int)))]) (fun _ => []) (0) (fun _ => True) (fun _ => (.exit 0, [(0, .ro xs.length (u32s xs)), (1, .ro ys.length (u32s ys)), (8, .v (.int .i64 (dsh ys : Nat)))], []))
theorem gnormLoop_rule (xs ys : List Nat) (hpre : dHyp2 xs ys) : LRuleP Try.prog Try.f55.ntmps (loopAt ((Try.f55.body).getD .skip) 7) (lp_gnormLoop xs ys) := by
  refine lrule_of (α := Nat) (β := Unit) (call := noCalls) (lp := fun _ => none) (N := 10) T_ok mixed noCalls_ok (fun n => dsh ys - n) (by kernel_rfl) (LpAllP.none _) ?_
  intro x hJ
  refine of_eq (B := letI z8 := (((List.length ys) : Nat) : Int); letI z0 := (IntKind.wrap IntKind.i64 (z8 - (1 : Int))); letI z7 := (Exit.exit (0 : Nat)); letI z2 := (Prod.mk (0 : Nat) (D.ro (List.length xs) (u32s xs))); letI z3 := (Prod.mk (1 : Nat) (D.ro (List.length ys) (u32s ys))); letI z5 := ([] : List (Option Blk)); letI z1 := (Prod.mk z7 (Prod.mk [z2, z3, (Prod.mk (8 : Nat) (D.v (Value.int IntKind.i64 (((dsh ys) : Nat) : Int))))] z5)); letI z10 := ((Int.toNat z0) * (1 : Nat)); letI z4 := (List.getD (u32s ys) z10 (Inhabited.default)); letI z6 := ((x : Nat) : Int); letI z9 := IntKind.wrap IntKind.u64 z6; letI z11 := (List (Option Nat)); (True ∧ (True ∧ (True ∧ (True ∧ ((((0 : Int) ≤ z0) ∧ (z0 < z8)) ∧ (((z10 < (List.length (u32s ys))) ∧ (IsInt IntKind.u32 z4)) ∧ (True ∧ (True ∧ (((0 : Int) ≤ z9) ∧ (True ∧ (True ∧ (pcond ((bits BinOp.and IntKind.u32 (IntKind.wrap IntKind.u32 ((cellInt z4) * ((2 : Int) ^ (Min.min (Int.toNat z9) (32 : Nat))))) (2147483648 : Int)) == (0 : Int)) (True ∧ (True ∧ (True ∧ (∃ (y : Nat), (∃ (kp : z11), ((((dsh ys) - y) < ((dsh ys) - x)) ∧ ((y ≤ (dsh ys)) ∧ (viewAll kp [z2, z3, (Prod.mk (8 : Nat) (D.v (Value.int IntKind.i64 (IntKind.wrap IntKind.i64 (z6 + (1 : Int))))))] z5 [z2, z3, (Prod.mk (8 : Nat) (D.v (Value.int IntKind.i64 ((y : Nat) : Int))))] z5)))))))) (∃ (r : Unit), (∃ (kp : z11), (True ∧ ((z7 = z7) ∧ (viewAll kp [z2, z3, (Prod.mk (8 : Nat) (D.v (Value.int IntKind.i64 z6)))] z5 (Prod.fst (Prod.snd ((fun (x_1 : Unit) => z1) r))) (Prod.snd (Prod.snd ((fun (x_1 : Unit) => z1) r))))))))))))))))))))) (by kernel_rfl) ?_
  obtain ⟨⟨f1, f2⟩, ⟨f3, f4⟩, ⟨f5, f6⟩, f7, f8, dx, dy, dv⟩ := div_facts hpre
  obtain ⟨⟨⟨⟨hlx, hly⟩, gx, gy⟩, h0⟩, h2, hle⟩ := hpre
  have w1 : IntKind.i64.wrap ((ys.length : Int) - 1) = ((ys.length - 1 : Nat) : Int) := by rw [wrap_i64_of (by omega) (by omega)]; omega
  have w2 : IntKind.u64.wrap (x : Int) = (x : Int) := wrap_u64_of (by omega) (by omega)
  have w3 : IntKind.i64.wrap ((x : Int) + 1) = ((x + 1 : Nat) : Int) := by rw [wrap_i64_of (by omega) (by omega)]; omega
  simp only [true_and, and_true, and_self, IsInt_lit, IsBool_lit, IsStr_lit, Bool.not_eq_true', Bool.not_eq_false', Bool.not_true, Bool.not_false, Int.reduceLE, Int.reduceLT, Int.reduceNeg, Nat.le_refl, Int.le_refl, Nat.reduceLT, Nat.reduceLeDiff, Nat.reduceEqDiff, D.v.injEq, D.tup.injEq, D.agg.injEq, D.ro.injEq, List.cons.injEq, Value.int.injEq, Value.bool.injEq, pcond_true, pcond_false, NamelessL, Nameless, Nat.reduceMul, Nat.reduceAdd, Nat.zero_add, Int.toNat_natCast, w1, w2, w3, Nat.mul_one, Int.toNat_natCast, u32s_cell, u32s_length, show min x 32 = x by omega, u32s_isInt ys (ys.length - 1) (by omega), and_true]
  have htop : ys.getD (ys.length - 1) 0 ≠ 0 := by
    have := (last_dg (v := nv ys) (by omega)).2
    rwa [← gy] at this
  obtain ⟨t1, t2⟩ := top_shift htop (dy.get (ys.length - 1)) (show x ≤ 32 - bl (ys.getD (ys.length - 1) 0) from hJ)
  have hdef : 32 - bl (ys.getD (ys.length - 1) 0) = dsh ys := rfl
  rw [hdef] at t2
  have w4 : IntKind.u32.wrap (((ys.getD (ys.length - 1) 0 : Nat) : Int) * 2 ^ x) = ((ys.getD (ys.length - 1) 0 * 2 ^ x : Nat) : Int) := by
    have : ((ys.getD (ys.length - 1) 0 : Nat) : Int) * 2 ^ x = ((ys.getD (ys.length - 1) 0 * 2 ^ x : Nat) : Int) := by simp
    rw [this, wrap_u32_of (by omega) (by omega)]
  rw [w4, and31 t1]
  refine ⟨⟨by omega, by omega⟩, by omega, by omega, pcond_intro (fun h => ⟨x + 1, [], ?_⟩) (fun h => ⟨(), [], ?_⟩)⟩
  · have hne : x ≠ dsh ys := fun e => by
      rw [if_pos (t2.2 e)] at h; simp at h
    refine ⟨by omega, by omega, ?_⟩
    refine of_eq (B := letI z0 := (D.v (Value.int IntKind.i64 (((x + (1 : Nat)) : Nat) : Int))); letI z1 := (D.ro (List.length xs) (u32s xs)); letI z2 := (D.ro (List.length ys) (u32s ys)); letI z3 := ([] : List (Option Blk)); ((Bool.true = Bool.true) ∧ ((z3 = z3) ∧ ((True ∧ (z1 = z1)) ∧ ((True ∧ (z2 = z2)) ∧ ((True ∧ (z0 = z0)) ∧ True)))))) (by kernel_rfl) ?_
    simp
  · have he : x = dsh ys := by
      refine Classical.byContradiction fun hne => ?_
      rw [if_neg (fun h' => hne (t2.1 h'))] at h; simp at h
    subst he
    refine of_eq (B := letI z0 := (D.v (Value.int IntKind.i64 (((dsh ys) : Nat) : Int))); letI z1 := (D.ro (List.length xs) (u32s xs)); letI z2 := (D.ro (List.length ys) (u32s ys)); letI z3 := ([] : List (Option Blk)); ((Bool.true = Bool.true) ∧ ((z3 = z3) ∧ ((True ∧ (z1 = z1)) ∧ ((True ∧ (z2 = z2)) ∧ ((True ∧ (z0 = z0)) ∧ True)))))) (by kernel_rfl) ?_
    simp
theorem tk_take {us X : List Nat} {n j R : Nat} (h : j ≤ us.length) : (us.take j ++ (dgn n R ++ X)).take (j + n) = us.take j ++ dgn n R := by
  rw [← List.append_assoc]
  exact List.take_left' (by simp [dgn_length]; omega)
theorem tk_take1 {us X : List Nat} {n j R : Nat} (h : j ≤ us.length) : (us.take j ++ (dgn (n + 1) R ++ X)).take (j + n) = us.take j ++ dgn n R := by
  rw [dgn_add, List.append_assoc, tk_take h]
def lp_gdivLoop (xs ys : List Nat) : LoopO := loopRule (α := Nat × List Nat × List Nat) (β := List Nat × List Nat) [some 0, some 2] (fun s => (s.1 ≤ dM xs ys ∧ s.2.1.length = xs.length + 1 ∧ Dig s.2.1) ∧ s.2.1.take (s.1 + ys.length) = (dU0 xs ys).take s.1 ++ dgn ys.length (nv xs * 2 ^ dsh ys / 4294967296 ^ s.1 % nv (dvs ys)) ∧ s.2.2 = List.replicate s.1 0 ++ dgn (dM xs ys - s.1) (nv xs * 2 ^ dsh ys / 4294967296 ^ s.1 / nv (dvs ys))) (fun s => [(8, .v (.int .i64 (dsh ys : Nat))), (9, .sl 0 0 (xs.length + 1) (.toEnd 1)), (10, .ro (dvs ys).length (u32s (dvs ys))), (11, .sl 1 0 (dM xs ys) (.toEnd 1)), (12, .v (.int .i64 ((s.1 : Int) - 1)))]) (fun s => [some ⟨41, u32s s.2.1, true⟩, some ⟨41, u32s s.2.2, true⟩]) ((dM xs ys, dU0 xs ys, List.replicate (dM xs ys) 0)) (fun r => (r.1.length = xs.length + 1 ∧ Dig r.1 ∧ r.1.take ys.length = dgn ys.length (nv xs * 2 ^ dsh ys % nv (dvs ys))) ∧ r.2 = dgn (dM xs ys) (nv xs * 2 ^ dsh ys / nv (dvs ys))) (fun r => (.exit 2, [(8, .v (.int .i64 (dsh ys : Nat))), (9, .sl 0 0 (xs.length + 1) (.toEnd 1)), (10, .ro (dvs ys).length (u32s (dvs ys))), (11, .sl 1 0 (dM xs ys) (.toEnd 1))], [some ⟨41, u32s r.1, true⟩, some ⟨41, u32s r.2, true⟩]))
theorem gdivLoop_rule (xs ys : List Nat) (hpre : dHyp2 xs ys) : LRuleP Try.prog Try.f55.ntmps (loopAt ((Try.f55.body).getD .skip) 12) (lp_gdivLoop xs ys) := by
  refine lrule_of (α := Nat × List Nat × List Nat) (β := List Nat × List Nat) (call := (addQ 100 entq_guess (addPure 101 ent_gless (addMut 102 entm_gtake noCalls)))) (lp := fun _ => none) (N := 10) T_ok mixed (addQ_ok entq_guess_ok (addPure_ok ent_gless_ok (addMut_ok entm_gtake_ok noCalls_ok))) (fun s => s.1) (by kernel_rfl) (LpAllP.none _) ?_
  intro x hJ
  refine of_eq (B := letI z1 := ((((Prod.fst x) : Nat) : Int) - (1 : Int)); letI z15 := (List.length (dvs ys)); letI z37 := ((z15 : Nat) : Int); letI z0 := (IntKind.wrap IntKind.i64 (z1 + z37)); letI z2 := (u32s (Prod.fst (Prod.snd x))); letI z12 := ((List.length xs) + (1 : Nat)); letI z32 := (z12 - (Int.toNat z1)); letI z13 := ((0 : Nat) + ((Int.toNat z1) * (1 : Nat))); letI z3 := (List.take (z32 * (1 : Nat)) (List.drop z13 z2)); letI z11 := (u32s (dvs ys)); letI z19 := (IntKind.wrap IntKind.i64 (z37 - (1 : Int))); letI z50 := ((Int.toNat z19) * (1 : Nat)); letI z4 := (List.getD z11 z50 (Inhabited.default)); letI z20 := (IntKind.wrap IntKind.i64 (z0 - (1 : Int))); letI z30 := ((0 : Nat) + ((Int.toNat z20) * (1 : Nat))); letI z48 := (List.getD z2 z30 (Inhabited.default)); letI z5 := (IntKind.wrap IntKind.u64 (cellInt z48)); letI z55 := (Cap.toEnd (1 : Nat)); letI z6 := (Prod.mk (9 : Nat) (D.sl (0 : Nat) (0 : Nat) z12 z55)); letI z7 := (Prod.mk (11 : Nat) (D.sl (1 : Nat) (0 : Nat) (dM xs ys) z55)); letI z8 := (IntKind.wrap IntKind.i64 (z37 - (2 : Int))); letI z31 := ((0 : Nat) + ((Int.toNat z0) * (1 : Nat))); letI z47 := (List.getD z2 z31 (Inhabited.default)); letI z9 := (IntKind.wrap IntKind.u64 (cellInt z47)); letI z10 := (Prod.mk (8 : Nat) (D.v (Value.int IntKind.i64 (((dsh ys) : Nat) : Int)))); letI z24 := (IntKind.wrap IntKind.i64 (z0 - (2 : Int))); letI z43 := ((0 : Nat) + ((Int.toNat z24) * (1 : Nat))); letI z14 := (List.getD z2 z43 (Inhabited.default)); letI z41 := ((z12 : Nat) : Int); letI z54 := ((1 : Nat) = (1 : Nat)); letI z16 := (((((0 : Int) ≤ z1) ∧ (z1 ≤ z41)) ∧ (True ∧ True)) ∧ z54); letI z51 := ((Int.toNat z8) * (1 : Nat)); letI z38 := (List.getD z11 z51 (Inhabited.default)); letI z17 := (IntKind.wrap IntKind.u64 (cellInt z38)); letI z18 := (Prod.mk (10 : Nat) (D.ro z15 z11)); letI z21 := ((nv xs) * ((2 : Nat) ^ (dsh ys))); letI z22 := (IntKind.wrap IntKind.u64 (cellInt z4)); letI z23 := (List.length (unu z11)); letI z53 := Bool.true = Bool.true; letI z52 := (z11 = (u32s (unu z11))); letI z25 := ((((41 : Nat) = (41 : Nat)) ∧ z53) ∧ ((z2 = (u32s (unu z2))) ∧ z52)); letI z26 := (u32s (Prod.snd (Prod.snd x))); letI z27 := (4294967296 : Int); letI z28 := (Prod (List Nat) (List Nat)); letI z29 := (Prod.mk (12 : Nat) (D.v (Value.int IntKind.i64 (IntKind.wrap IntKind.i64 (z1 - (1 : Int)))))); letI z33 := (4294967296 : Nat); letI z34 := (IntKind.wrap IntKind.u64 (cellInt z14)); letI z35 := (z54 ∧ ((z13 + (1 : Nat)) ≤ (List.length z26))); letI z36 := List.length ys; letI z39 := (((0 : Int) ≤ z1) ∧ (z1 < (((dM xs ys) : Nat) : Int))); letI z40 := (Exit.exit (2 : Nat)); letI z42 := (z23 + (1 : Nat)); letI z44 := List.length z2; letI z45 := (((Int.toNat z9) * z33) + (Int.toNat z5)); letI z46 := (List.length (unu z3)); letI z49 := (List (Option Nat)); (True ∧ (True ∧ (pcond (Decidable.decide ((0 : Int) ≤ z1)) (True ∧ (True ∧ (True ∧ (True ∧ (True ∧ ((((0 : Int) ≤ z0) ∧ (z0 < z41)) ∧ (((z31 < z44) ∧ (IsInt IntKind.u32 z47)) ∧ (True ∧ (True ∧ (True ∧ (True ∧ (True ∧ (True ∧ (True ∧ ((((0 : Int) ≤ z20) ∧ (z20 < z41)) ∧ (((z30 < z44) ∧ (IsInt IntKind.u32 z48)) ∧ (True ∧ (True ∧ (True ∧ (True ∧ (True ∧ (True ∧ (True ∧ ((((0 : Int) ≤ z24) ∧ (z24 < z41)) ∧ (((z43 < z44) ∧ (IsInt IntKind.u32 z14)) ∧ (True ∧ (True ∧ (True ∧ (True ∧ (True ∧ ((((0 : Int) ≤ z19) ∧ (z19 < z37)) ∧ (((z50 < (List.length z11)) ∧ (IsInt IntKind.u32 z4)) ∧ (True ∧ (True ∧ (True ∧ (True ∧ (True ∧ ((((0 : Int) ≤ z8) ∧ (z8 < z37)) ∧ (((z51 < (List.length z11)) ∧ (IsInt IntKind.u32 z38)) ∧ (True ∧ (((((((0 : Int) ≤ z9) ∧ (z9 < z27)) ∧ (((0 : Int) ≤ z5) ∧ (z5 < z27))) ∧ (((0 : Int) ≤ z34) ∧ (z34 < z27))) ∧ ((((0 : Int) < z22) ∧ (z22 < z27)) ∧ ((((0 : Int) ≤ z17) ∧ (z17 < z27)) ∧ (((z9 * z27) + z5) < ((z22 * z27) + z27))))) ∧ (∀ (g : Int), ((g = (((gF z45 (Int.toNat z22) (Int.toNat z17) (Int.toNat z34) (z45 / (Int.toNat z22))) : Nat) : Int)) → (True ∧ (z53 ∧ (True ∧ (True ∧ (z16 ∧ (True ∧ (True ∧ (((((NamelessL z2) ∧ (((0 : Nat) < (1 : Nat)) ∧ ((z13 + (z32 * (1 : Nat))) ≤ z44))) ∧ (True ∧ (True ∧ True))) ∧ ((z52 ∧ (z15 = z23)) ∧ (((z3 = (u32s (unu z3))) ∧ (z32 = z46)) ∧ ((((z46 ≤ (200000 : Nat)) ∧ (z23 ≤ (100000 : Nat))) ∧ (z42 ≤ z46)) ∧ (((Dig (unu z3)) ∧ (Dig (unu z11))) ∧ (((0 : Int) ≤ g) ∧ (g < (18446744073709551616 : Int)))))))) ∧ (pcond (Decidable.decide ((nv (List.take z42 (unu z3))) < ((nv (unu z11)) * (Int.toNat g)))) (True ∧ (True ∧ (True ∧ (True ∧ (True ∧ (z16 ∧ (True ∧ (True ∧ ((z25 ∧ ((z15 = z23) ∧ (((0 : Int) ≤ (IntKind.wrap IntKind.u64 (g - (1 : Int)))) ∧ (tkHyp z13 z32 (unu z2) (unu z11) (Int.toNat (IntKind.wrap IntKind.u64 (g - (1 : Int)))))))) ∧ (True ∧ (True ∧ (True ∧ (True ∧ (z39 ∧ (z35 ∧ (True ∧ (True ∧ (True ∧ (∃ (y : (Prod Nat z28)), (∃ (kp : z49), (((Prod.fst y) < (Prod.fst x)) ∧ (((((Prod.fst y) ≤ (dM xs ys)) ∧ (((List.length (Prod.fst (Prod.snd y))) = z12) ∧ (Dig (Prod.fst (Prod.snd y))))) ∧ (((List.take ((Prod.fst y) + z36) (Prod.fst (Prod.snd y))) = ((List.take (Prod.fst y) (dU0 xs ys)) ++ (dgn z36 ((z21 / (z33 ^ (Prod.fst y))) % (nv (dvs ys)))))) ∧ ((Prod.snd (Prod.snd y)) = ((List.replicate (Prod.fst y) (0 : Nat)) ++ (dgn ((dM xs ys) - (Prod.fst y)) ((z21 / (z33 ^ (Prod.fst y))) / (nv (dvs ys)))))))) ∧ (viewAll kp [z10, z6, z18, z7, z29] [(Option.some (Blk.mk (41 : Nat) (u32s (tkT z13 (unu z2) (unu z11) (Int.toNat (IntKind.wrap IntKind.u64 (g - (1 : Int)))) z42)) Bool.true)), (Option.some (Blk.mk (41 : Nat) (List.set z26 z13 (D.v (Value.int IntKind.u32 (IntKind.wrap IntKind.u32 (IntKind.wrap IntKind.u64 (g - (1 : Int))))))) Bool.true))] [z10, z6, z18, z7, (Prod.mk (12 : Nat) (D.v (Value.int IntKind.i64 ((((Prod.fst y) : Nat) : Int) - (1 : Int)))))] [(Option.some (Blk.mk (41 : TypeId) (u32s (Prod.fst (Prod.snd y))) Bool.true)), (Option.some (Blk.mk (41 : TypeId) (u32s (Prod.snd (Prod.snd y))) Bool.true))]))))))))))))))))))))))) (True ∧ (True ∧ (z16 ∧ (True ∧ (True ∧ ((z25 ∧ ((z15 = z23) ∧ (((0 : Int) ≤ g) ∧ (tkHyp z13 z32 (unu z2) (unu z11) (Int.toNat g))))) ∧ (True ∧ (True ∧ (True ∧ (True ∧ (z39 ∧ (z35 ∧ (True ∧ (True ∧ (True ∧ (∃ (y : (Prod Nat z28)), (∃ (kp : z49), (((Prod.fst y) < (Prod.fst x)) ∧ (((((Prod.fst y) ≤ (dM xs ys)) ∧ (((List.length (Prod.fst (Prod.snd y))) = z12) ∧ (Dig (Prod.fst (Prod.snd y))))) ∧ (((List.take ((Prod.fst y) + z36) (Prod.fst (Prod.snd y))) = ((List.take (Prod.fst y) (dU0 xs ys)) ++ (dgn z36 ((z21 / (z33 ^ (Prod.fst y))) % (nv (dvs ys)))))) ∧ ((Prod.snd (Prod.snd y)) = ((List.replicate (Prod.fst y) (0 : Nat)) ++ (dgn ((dM xs ys) - (Prod.fst y)) ((z21 / (z33 ^ (Prod.fst y))) / (nv (dvs ys)))))))) ∧ (viewAll kp [z10, z6, z18, z7, z29] [(Option.some (Blk.mk (41 : Nat) (u32s (tkT z13 (unu z2) (unu z11) (Int.toNat g) z42)) Bool.true)), (Option.some (Blk.mk (41 : Nat) (List.set z26 z13 (D.v (Value.int IntKind.u32 (IntKind.wrap IntKind.u32 g)))) Bool.true))] [z10, z6, z18, z7, (Prod.mk (12 : Nat) (D.v (Value.int IntKind.i64 ((((Prod.fst y) : Nat) : Int) - (1 : Int)))))] [(Option.some (Blk.mk (41 : TypeId) (u32s (Prod.fst (Prod.snd y))) Bool.true)), (Option.some (Blk.mk (41 : TypeId) (u32s (Prod.snd (Prod.snd y))) Bool.true))])))))))))))))))))))))))))))))))))))))))))))))))))))))))))))))))))))))))) (∃ (r : z28), (∃ (kp : z49), (((((List.length (Prod.fst r)) = z12) ∧ ((Dig (Prod.fst r)) ∧ ((List.take z36 (Prod.fst r)) = (dgn z36 (z21 % (nv (dvs ys))))))) ∧ ((Prod.snd r) = (dgn (dM xs ys) (z21 / (nv (dvs ys)))))) ∧ ((z40 = z40) ∧ (viewAll kp [z10, z6, z18, z7] [(Option.some (Blk.mk (41 : Nat) z2 Bool.true)), (Option.some (Blk.mk (41 : Nat) z26 Bool.true))] (Prod.fst (Prod.snd ((fun (r_1 : z28) => (Prod.mk z40 (Prod.mk [z10, z6, z18, z7] [(Option.some (Blk.mk (41 : TypeId) (u32s (Prod.fst r_1)) Bool.true)), (Option.some (Blk.mk (41 : TypeId) (u32s (Prod.snd r_1)) Bool.true))]))) r))) (Prod.snd (Prod.snd ((fun (r_1 : z28) => (Prod.mk z40 (Prod.mk [z10, z6, z18, z7] [(Option.some (Blk.mk (41 : TypeId) (u32s (Prod.fst r_1)) Bool.true)), (Option.some (Blk.mk (41 : TypeId) (u32s (Prod.snd r_1)) Bool.true))]))) r)))))))))))) (by kernel_rfl) ?_
  obtain ⟨k, us, qs⟩ := x
  obtain ⟨⟨f1, f2⟩, ⟨f3, f4⟩, ⟨f5, f6⟩, f7, f8, dx, dy, dv⟩ := div_facts hpre
  obtain ⟨⟨⟨⟨hlx, hly⟩, gx, gy⟩, h0⟩, h2, hle⟩ := hpre
  simp only at hJ
  obtain ⟨⟨hk, hul, hud⟩, ht, hq⟩ := hJ
  simp only [true_and, and_true, and_self, IsInt_lit, IsBool_lit, IsStr_lit, Bool.not_eq_true', Bool.not_eq_false', Bool.not_true, Bool.not_false, Int.reduceLE, Int.reduceLT, Int.reduceNeg, Nat.le_refl, Int.le_refl, Nat.reduceLT, Nat.reduceLeDiff, Nat.reduceEqDiff, D.v.injEq, D.tup.injEq, D.agg.injEq, D.ro.injEq, List.cons.injEq, Value.int.injEq, Value.bool.injEq, pcond_true, pcond_false, NamelessL, Nameless, Nat.reduceMul, Nat.reduceAdd, Nat.zero_add, Int.toNat_natCast, unu_u32s, Nat.mul_one]
  refine pcond_intro (fun h => ?_) (fun h => ?_)
  · simp only [decide_eq_true_eq] at h
    obtain ⟨j, rfl⟩ : ∃ j, k = j + 1 := ⟨k - 1, by omega⟩
    have e0 : ((j + 1 : Nat) : Int) - 1 = (j : Int) := by omega
    obtain ⟨g1, g2, g3, g4⟩ := div_round (U0 := dU0 xs ys) (X := nv xs * 2 ^ dsh ys) rfl hul hud (show j + 1 + ys.length ≤ xs.length + 1 by omega) f4 f5 ht
    have hT := f2
    have f3' := f3
    rw [f2] at f3'
    have w1 : IntKind.i64.wrap ((j : Int) + (ys.length : Int)) = ((j + ys.length : Nat) : Int) := by rw [wrap_i64_of (by omega) (by omega)]; omega
    have w2 : IntKind.i64.wrap (((j + ys.length : Nat) : Int) - 1) = ((j + (ys.length - 1) : Nat) : Int) := by rw [wrap_i64_of (by omega) (by omega)]; omega
    have w3 : IntKind.i64.wrap (((j + ys.length : Nat) : Int) - 2) = ((j + (ys.length - 2) : Nat) : Int) := by rw [wrap_i64_of (by omega) (by omega)]; omega
    have w4 : IntKind.i64.wrap ((ys.length : Int) - 1) = ((ys.length - 1 : Nat) : Int) := by rw [wrap_i64_of (by omega) (by omega)]; omega
    have w5 : IntKind.i64.wrap ((ys.length : Int) - 2) = ((ys.length - 2 : Nat) : Int) := by rw [wrap_i64_of (by omega) (by omega)]; omega
    have w6 : IntKind.i64.wrap ((j : Int) - 1) = (j : Int) - 1 := wrap_i64_of (by omega) (by omega)
    have w64 : ∀ a : Nat, a < 4294967296 → IntKind.u64.wrap (a : Int) = (a : Int) := fun a h => wrap_u64_of (by omega) (by omega)
    obtain ⟨hV, hVl, hUe, hUl, hTd, hu0, hv2, hv1, hV0⟩ := guess_facts (off := j) (zs := us) (ys := dvs ys) (by omega) (by omega) hud dv f3 (by rw [f2]; exact g1)
    rw [f2] at hV hVl hUe hUl hTd hu0 hv2 hv1
    have du0 := hud.get (j + ys.length)
    have du1 := hud.get (j + (ys.length - 1))
    have hseg : List.take (xs.length + 1 - j) (List.drop j (u32s us)) = u32s ((us.drop j).take (xs.length + 1 - j)) := by rw [u32s_drop, u32s_take]
    have hsl : ((us.drop j).take (xs.length + 1 - j)).length = xs.length + 1 - j := by simp; omega
    have hst : List.take (ys.length + 1) ((us.drop j).take (xs.length + 1 - j)) = (us.drop j).take (ys.length + 1) := by rw [List.take_take, Nat.min_eq_left (by omega)]
    have hTT : us.getD (j + ys.length) 0 * 4294967296 + us.getD (j + (ys.length - 1)) 0 = topD j us ys.length := rfl
    simp only [e0, Int.toNat_natCast, f2, u32s_length, w1, w2, w3, w4, w5, w6, u32s_cell, w64 _ du0, w64 _ du1, w64 _ hu0, w64 _ hv1, w64 _ hv2, hseg, unu_u32s, hsl, hst,
      u32s_isInt us (j + ys.length) (by omega), u32s_isInt us (j + (ys.length - 1)) (by omega), u32s_isInt us (j + (ys.length - 2)) (by omega), u32s_isInt (dvs ys) (ys.length - 1) (by omega), u32s_isInt (dvs ys) (ys.length - 2) (by omega), and_true]
    refine ⟨⟨by omega, by omega⟩, by omega, ⟨by omega, by omega⟩, by omega, ⟨by omega, by omega⟩, by omega, ⟨by omega, by omega⟩, by omega, ⟨by omega, by omega⟩, by omega, ⟨⟨⟨⟨by omega, by omega⟩, by omega, by omega⟩, by omega, by omega⟩, ⟨by omega, by omega⟩, ⟨by omega, by omega⟩, ?_⟩, ?_⟩
    · have := hTd
      rw [← hTT] at this
      omega
    have hdmT := Nat.div_add_mod (topD j us ys.length) ((dvs ys).getD (ys.length - 1) 0)
    have hmlT := Nat.mod_lt (topD j us ys.length) (show 0 < (dvs ys).getD (ys.length - 1) 0 by omega)
    obtain ⟨q1, q2, q3⟩ := gF_spec hV hVl hUe hUl hTd hu0 hv2 (by omega) hV0 g1 (topD j us ys.length / (dvs ys).getD (ys.length - 1) 0) (guess_init hV hUe hUl hu0 (by omega) hV0) (by rw [Nat.mul_comm]; omega) (by rw [Nat.mul_comm]; omega)
    intro g hg
    rw [hTT] at hg
    generalize hG : gF (topD j us ys.length) ((dvs ys).getD (ys.length - 1) 0) ((dvs ys).getD (ys.length - 2) 0) (us.getD (j + (ys.length - 2)) 0) (topD j us ys.length / (dvs ys).getD (ys.length - 1) 0) = G at *
    subst hg
    have hqB : uS j us (ys.length + 1) / nv (dvs ys) < 4294967296 := by rw [Nat.div_lt_iff_lt_mul f4]; exact g1
    have hqV : nv (dvs ys) * (uS j us (ys.length + 1) / nv (dvs ys)) ≤ uS j us (ys.length + 1) := Nat.mul_div_le _ _
    have hql : qs.length = dM xs ys := by rw [hq]; simp [dgn_length]; omega
    have htk : tkHyp j (xs.length + 1 - j) us (dvs ys) (uS j us (ys.length + 1) / nv (dvs ys)) := ⟨⟨⟨by omega, by omega⟩, by omega⟩, ⟨hud, dv⟩, hqB, by rw [f2]; exact hqV⟩
    have hR : tkR j us (dvs ys) (uS j us (ys.length + 1) / nv (dvs ys)) = uS j us (ys.length + 1) % nv (dvs ys) := by
      unfold tkR
      rw [f2]
      have := Nat.div_add_mod (uS j us (ys.length + 1)) (nv (dvs ys))
      omega
    have fin : ∃ (y : Nat × List Nat × List Nat) (kp : List (Option Nat)), y.1 < j + 1 ∧ ((y.1 ≤ dM xs ys ∧ y.2.1.length = xs.length + 1 ∧ Dig y.2.1) ∧ List.take (y.1 + ys.length) y.2.1 = List.take y.1 (dU0 xs ys) ++ dgn ys.length (nv xs * 2 ^ dsh ys / 4294967296 ^ y.1 % nv (dvs ys)) ∧ y.2.2 = List.replicate y.1 0 ++ dgn (dM xs ys - y.1) (nv xs * 2 ^ dsh ys / 4294967296 ^ y.1 / nv (dvs ys))) ∧
        viewAll kp [(8, D.v (Value.int IntKind.i64 ((dsh ys : Nat) : Int))), (9, D.sl 0 0 (xs.length + 1) (Cap.toEnd 1)), (10, D.ro ys.length (u32s (dvs ys))), (11, D.sl 1 0 (dM xs ys) (Cap.toEnd 1)), (12, D.v (Value.int IntKind.i64 ((j : Int) - 1)))]
          [some { ty := 41, cs := u32s (tkT j us (dvs ys) (uS j us (ys.length + 1) / nv (dvs ys)) (ys.length + 1)), full := true }, some { ty := 41, cs := u32s (qs.set j (uS j us (ys.length + 1) / nv (dvs ys))), full := true }]
          [(8, D.v (Value.int IntKind.i64 ((dsh ys : Nat) : Int))), (9, D.sl 0 0 (xs.length + 1) (Cap.toEnd 1)), (10, D.ro ys.length (u32s (dvs ys))), (11, D.sl 1 0 (dM xs ys) (Cap.toEnd 1)), (12, D.v (Value.int IntKind.i64 ((y.1 : Int) - 1)))]
          [some { ty := 41, cs := u32s y.2.1, full := true }, some { ty := 41, cs := u32s y.2.2, full := true }] := by
      refine ⟨(j, tkT j us (dvs ys) (uS j us (ys.length + 1) / nv (dvs ys)) (ys.length + 1), qs.set j (uS j us (ys.length + 1) / nv (dvs ys))), [some 0, some 1], by simp only; omega, ⟨⟨by simp only; omega, ?_, ?_⟩, ?_, ?_⟩, ?_⟩
      · simp only; rw [tkT_length (by omega)]; exact hul
      · exact Dig.app.2 ⟨hud.take _, Dig.app.2 ⟨dgn_dig _ _, hud.drop _⟩⟩
      · simp only
        rw [tk_take (X := us.drop (j + ys.length)) (show j ≤ us.length by omega)] at g4
        unfold tkT
        rw [hR, tk_take1 (show j ≤ us.length by omega)]
        exact g4
      · simp only
        have hd1 : nv xs * 2 ^ dsh ys / 4294967296 ^ (j + 1) / nv (dvs ys) = nv xs * 2 ^ dsh ys / 4294967296 ^ j / nv (dvs ys) / 4294967296 := by
          rw [div_pow_succ, Nat.div_div_eq_div_mul, Nat.div_div_eq_div_mul (nv xs * 2 ^ dsh ys / 4294967296 ^ j), Nat.mul_comm 4294967296]
        rw [hq, hd1, ← g2, q_round, show dM xs ys - (j + 1) + 1 = dM xs ys - j by omega]
      · refine of_eq (B := letI z8 := List.length ys; letI z0 := ((uS j us (z8 + (1 : Nat))) / (nv (dvs ys))); letI z1 := (u32s (tkT j us (dvs ys) z0 (z8 + (1 : Nat)))); letI z12 := (Cap.toEnd (1 : Nat)); letI z2 := (D.sl (0 : Nat) (0 : Nat) ((List.length xs) + (1 : Nat)) z12); letI z9 := (u32s (List.set qs j z0)); letI z3 := (Option.some (Blk.mk (41 : Nat) z9 Bool.true)); letI z4 := (D.v (Value.int IntKind.i64 (((j : Nat) : Int) - (1 : Int)))); letI z5 := (D.sl (1 : Nat) (0 : Nat) (dM xs ys) z12); letI z6 := (D.v (Value.int IntKind.i64 (((dsh ys) : Nat) : Int))); letI z7 := (Option.some (Blk.mk (41 : Nat) z1 Bool.true)); letI z10 := (D.ro z8 (u32s (dvs ys))); letI z11 := ([] : List (Option Blk)); ((Bool.true = Bool.true) ∧ ((((z7 = z7) ∧ (NamelessL z1)) ∧ (((z3 = z3) ∧ (NamelessL z9)) ∧ (z11 = z11))) ∧ ((True ∧ (z6 = z6)) ∧ ((True ∧ (z2 = z2)) ∧ ((True ∧ (z10 = z10)) ∧ ((True ∧ (z5 = z5)) ∧ ((True ∧ (z4 = z4)) ∧ True)))))))) (by kernel_rfl) ?_
        simp [u32s_nameless]
    have hnu : nv ((us.drop j).take (ys.length + 1)) = uS j us (ys.length + 1) := rfl
    rw [Int.toNat_natCast, hnu]
    have hddm := Nat.div_add_mod (uS j us (ys.length + 1)) (nv (dvs ys))
    have hmm := Nat.mod_lt (uS j us (ys.length + 1)) f4
    refine ⟨⟨by omega, by omega⟩, ⟨⟨u32s_nameless _, by omega⟩, trivial, ⟨⟨by omega, by omega⟩, by omega⟩, ⟨(hud.drop _).take _, dv⟩, Int.natCast_nonneg _, by omega⟩, pcond_intro (fun h5 => ?_) (fun h5 => ?_)⟩
    · simp only [decide_eq_true_eq] at h5
      have hG1 : G = uS j us (ys.length + 1) / nv (dvs ys) + 1 := by
        refine Nat.le_antisymm q3 (Nat.lt_of_not_le fun hle2 => ?_)
        have := Nat.mul_le_mul_left (nv (dvs ys)) hle2
        omega
      have w7 : IntKind.u64.wrap ((G : Int) - 1) = ((uS j us (ys.length + 1) / nv (dvs ys) : Nat) : Int) := by
        rw [hG1]
        generalize uS j us (ys.length + 1) / nv (dvs ys) = q at *
        rw [wrap_u64_of (by omega) (by omega)]; omega
      rw [w7, Int.toNat_natCast]
      have w8 : IntKind.u32.wrap ((uS j us (ys.length + 1) / nv (dvs ys) : Nat) : Int) = ((uS j us (ys.length + 1) / nv (dvs ys) : Nat) : Int) := wrap_u32_of (Int.natCast_nonneg _) (by
        generalize uS j us (ys.length + 1) / nv (dvs ys) = q at *
        omega)
      rw [w8, u32s_put]
      exact ⟨⟨by omega, by omega⟩, ⟨Int.natCast_nonneg _, htk⟩, ⟨by omega, by omega⟩, by omega, fin⟩
    · simp only [decide_eq_false_iff_not] at h5
      have hG1 : G = uS j us (ys.length + 1) / nv (dvs ys) := by
        refine Nat.le_antisymm ?_ q2
        rw [Nat.le_div_iff_mul_le f4, Nat.mul_comm]
        omega
      subst hG1
      have w8 : IntKind.u32.wrap ((uS j us (ys.length + 1) / nv (dvs ys) : Nat) : Int) = ((uS j us (ys.length + 1) / nv (dvs ys) : Nat) : Int) := wrap_u32_of (Int.natCast_nonneg _) (by
        generalize uS j us (ys.length + 1) / nv (dvs ys) = q at *
        omega)
      rw [w8, u32s_put]
      exact ⟨⟨by omega, by omega⟩, ⟨Int.natCast_nonneg _, htk⟩, ⟨by omega, by omega⟩, by omega, fin⟩
  · simp only [decide_eq_false_iff_not] at h
    have hk0 : k = 0 := by omega
    subst hk0
    simp only [Nat.zero_add, List.take_zero, List.nil_append, Nat.pow_zero, Nat.div_one, List.replicate_zero, Nat.sub_zero] at ht hq
    refine ⟨(us, qs), [some 0, some 1], ⟨⟨hul, hud, ht⟩, hq⟩, ?_⟩
    refine of_eq (B := letI z7 := (Cap.toEnd (1 : Nat)); letI z0 := (D.sl (0 : Nat) (0 : Nat) ((List.length xs) + (1 : Nat)) z7); letI z1 := (D.sl (1 : Nat) (0 : Nat) (dM xs ys) z7); letI z2 := (D.v (Value.int IntKind.i64 (((dsh ys) : Nat) : Int))); letI z3 := (Option.some (Blk.mk (41 : Nat) (u32s us) Bool.true)); letI z4 := (Option.some (Blk.mk (41 : Nat) (u32s qs) Bool.true)); letI z5 := (D.ro (List.length (dvs ys)) (u32s (dvs ys))); letI z6 := ([] : List (Option Blk)); ((Bool.true = Bool.true) ∧ ((((z3 = z3) ∧ (NamelessL (u32s us))) ∧ (((z4 = z4) ∧ (NamelessL (u32s qs))) ∧ (z6 = z6))) ∧ ((True ∧ (z2 = z2)) ∧ ((True ∧ (z0 = z0)) ∧ ((True ∧ (z5 = z5)) ∧ ((True ∧ (z1 = z1)) ∧ True))))))) (by kernel_rfl) ?_
    simp [u32s_nameless]
end Go.Proofs.Ythnhfkpihbjddaa
end
