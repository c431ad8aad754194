/- The specification's integers as ints. -/
import Derived.Test.YtgilijgbljgekaaRn
namespace Go.Proofs.Ytgilijgbljgekaa
open Go.VD
set_option linter.unusedVariables false
set_option linter.unusedSimpArgs false
set_option maxRecDepth 100000

def fitsI (v : Int) : Bool := decide (-9223372036854775808 ≤ v) && decide (v < 9223372036854775808)
theorem or_shift {a b : Nat} (ha : a < 4294967296) (hb : b < 4294967296) : Go.bits BinOp.or IntKind.u64 (IntKind.u64.wrap ((a : Int) * 4294967296)) (IntKind.u64.wrap (b : Int)) = ((b + 4294967296 * a : Nat) : Int) := by
  have e1 : IntKind.u64.wrap ((a : Int) * 4294967296) = ((4294967296 * a : Nat) : Int) := by rw [wrap_u64]; omega
  have e2 : IntKind.u64.wrap (b : Int) = (b : Int) := by rw [wrap_u64]; omega
  rw [e1, e2, bits_or_u64_nat (4294967296 * a) b (by omega) (by omega)]
  have := Nat.two_pow_add_eq_or_of_lt (i := 32) (b := b) (by omega) a
  rw [show (2 : Nat) ^ 32 = 4294967296 from rfl] at this
  rw [← this, Nat.add_comm]
def lp_smallLoop (xn : Bool) (xs : List Nat) : LoopO := loopRule (α := Nat) (β := Unit) [some 0] (fun k => (k ≤ xs.length ∧ xs.length ≤ 2)) (fun k => [(1, .ptr 0 0), (4, .v (.int .u64 (nv (xs.drop k) : Nat))), (5, .v (.int .i64 ((k : Int) - 1)))]) (fun k => [some ⟨24, [.v (.bool xn), .ro xs.length (u32s xs)], true⟩]) (xs.length) (fun _ => True) (fun _ => (.exit 0, [(1, .ptr 0 0), (4, .v (.int .u64 (nv xs : Nat)))], [some ⟨24, [.v (.bool xn), .ro xs.length (u32s xs)], true⟩]))
theorem smallLoop_rule (xn : Bool) (xs : List Nat) (hpre : Good xn xs ∧ xs.length ≤ 400) : LRuleP Try.prog Try.f16.ntmps (loopAt ((Try.f16.body).getD .skip) 5) (lp_smallLoop xn xs) := by
  refine lrule_of (α := Nat) (β := Unit) (call := noCalls) (lp := fun _ => none) (N := 10) T_ok mixed noCalls_ok (fun k => k) (by kernel_rfl) (LpAllP.none _) ?_
  intro x hJ
  refine of_eq (B := (True ∧ (True ∧ (pcond (Decidable.decide ((0 : Int) ≤ (((x : Nat) : Int) - (1 : Int)))) (True ∧ (((0 : Int) ≤ (32 : Int)) ∧ (True ∧ (((1 : Nat) < (2 : Nat)) ∧ (True ∧ ((((0 : Int) ≤ (((x : Nat) : Int) - (1 : Int))) ∧ ((((x : Nat) : Int) - (1 : Int)) < (((List.length xs) : Nat) : Int))) ∧ (((((Int.toNat (((x : Nat) : Int) - (1 : Int))) * (1 : Nat)) < (List.length (u32s xs))) ∧ (IsInt IntKind.u32 (List.getD (u32s xs) ((Int.toNat (((x : Nat) : Int) - (1 : Int))) * (1 : Nat)) (Inhabited.default)))) ∧ (True ∧ (True ∧ (True ∧ (True ∧ (True ∧ (True ∧ (∃ (y : Nat), (∃ (kp : (List (Option Nat))), ((y < x) ∧ (((y ≤ (List.length xs)) ∧ ((List.length xs) ≤ (2 : Nat))) ∧ (viewAll kp [(Prod.mk (1 : Nat) (D.ptr (0 : Nat) (0 : Nat))), (Prod.mk (4 : Nat) (D.v (Value.int IntKind.u64 (bits BinOp.or IntKind.u64 (IntKind.wrap IntKind.u64 ((((nv (List.drop x xs)) : Nat) : Int) * (4294967296 : Int))) (IntKind.wrap IntKind.u64 (cellInt (List.getD (u32s xs) ((Int.toNat (((x : Nat) : Int) - (1 : Int))) * (1 : Nat)) (Inhabited.default)))))))), (Prod.mk (5 : Nat) (D.v (Value.int IntKind.i64 (IntKind.wrap IntKind.i64 ((((x : Nat) : Int) - (1 : Int)) - (1 : Int))))))] [(Option.some (Blk.mk (24 : Nat) [(D.v (Value.bool xn)), (D.ro (List.length xs) (u32s xs))] Bool.true))] [(Prod.mk (1 : Nat) (D.ptr (0 : Nat) (0 : Nat))), (Prod.mk (4 : Nat) (D.v (Value.int IntKind.u64 (((nv (List.drop y xs)) : Nat) : Int)))), (Prod.mk (5 : Nat) (D.v (Value.int IntKind.i64 (((y : Nat) : Int) - (1 : Int)))))] [(Option.some (Blk.mk (24 : TypeId) [(D.v (Value.bool xn)), (D.ro (List.length xs) (u32s xs))] Bool.true))])))))))))))))))))) (∃ (r : Unit), (∃ (kp : (List (Option Nat))), (True ∧ (((Exit.exit (0 : Nat)) = (Exit.exit (0 : Nat))) ∧ (viewAll kp [(Prod.mk (1 : Nat) (D.ptr (0 : Nat) (0 : Nat))), (Prod.mk (4 : Nat) (D.v (Value.int IntKind.u64 (((nv (List.drop x xs)) : Nat) : Int))))] [(Option.some (Blk.mk (24 : Nat) [(D.v (Value.bool xn)), (D.ro (List.length xs) (u32s xs))] Bool.true))] (Prod.fst (Prod.snd ((fun (x : Unit) => (Prod.mk (Exit.exit (0 : Nat)) (Prod.mk [(Prod.mk (1 : Nat) (D.ptr (0 : Nat) (0 : Nat))), (Prod.mk (4 : Nat) (D.v (Value.int IntKind.u64 (((nv xs) : Nat) : Int))))] [(Option.some (Blk.mk (24 : TypeId) [(D.v (Value.bool xn)), (D.ro (List.length xs) (u32s xs))] Bool.true))]))) r))) (Prod.snd (Prod.snd ((fun (x : Unit) => (Prod.mk (Exit.exit (0 : Nat)) (Prod.mk [(Prod.mk (1 : Nat) (D.ptr (0 : Nat) (0 : Nat))), (Prod.mk (4 : Nat) (D.v (Value.int IntKind.u64 (((nv xs) : Nat) : Int))))] [(Option.some (Blk.mk (24 : TypeId) [(D.v (Value.bool xn)), (D.ro (List.length xs) (u32s xs))] Bool.true))]))) r)))))))))))) (by kernel_rfl) ?_
  obtain ⟨g, _⟩ := hpre
  obtain ⟨hx, hl⟩ := hJ
  have hd := good_dig g
  simp only [true_and, and_true, and_self, IsInt_lit, IsBool_lit, IsStr_lit, Bool.not_eq_true', Bool.not_eq_false', Bool.not_true, Bool.not_false, Int.reduceLE, Int.reduceLT, Int.reduceNeg, Nat.le_refl, Int.le_refl, Nat.reduceLT, Nat.reduceLeDiff, Nat.reduceEqDiff, D.v.injEq, D.tup.injEq, D.agg.injEq, D.ro.injEq, List.cons.injEq, Value.int.injEq, Value.bool.injEq, pcond_true, pcond_false, NamelessL, Nameless, Nat.reduceMul, Nat.reduceAdd, Nat.zero_add, Int.toNat_natCast, Nat.mul_one, u32s_cell, u32s_length]
  refine pcond_intro (fun h => ?_) (fun h => ⟨(), [some 0], ?_⟩)
  · simp only [decide_eq_true_eq] at h
    obtain ⟨j, rfl⟩ : ∃ j, x = j + 1 := ⟨x - 1, by omega⟩
    have e : ((j + 1 : Nat) : Int) - 1 = (j : Int) := by omega
    have w : IntKind.i64.wrap ((j : Int) - 1) = (j : Int) - 1 := wrap_i64_of (by omega) (by omega)
    have h1 := nv_lt (hd.drop (j + 1))
    have h2 := nv_drop_succ xs j
    have h3 := hd.get j
    have h4 : (xs.drop (j + 1)).length = 0 ∨ (xs.drop (j + 1)).length = 1 := by rw [List.length_drop]; omega
    have h5 : nv (xs.drop (j + 1)) < 4294967296 := by rcases h4 with h4 | h4 <;> rw [h4] at h1 <;> omega
    simp only [e, w, Int.toNat_natCast, u32s_isInt _ _ (show j < xs.length by omega), and_true]
    have h6 : Go.bits BinOp.or IntKind.u64 (IntKind.u64.wrap ((nv (xs.drop (j + 1)) : Int) * 4294967296)) (IntKind.u64.wrap (xs.getD j 0 : Int)) = (nv (xs.drop j) : Nat) := by
      rw [h2]
      generalize nv (xs.drop (j + 1)) = a at *
      generalize xs.getD j 0 = b at *
      exact or_shift h5 h3
    rw [h6]
    refine ⟨⟨by omega, by omega⟩, by omega, j, [some 0], by omega, ⟨by omega, hl⟩, ?_⟩
    refine of_eq (B := ((Bool.true = Bool.true) ∧ (((((Option.some (Blk.mk (24 : Nat) [(D.v (Value.bool xn)), (D.ro (List.length xs) (u32s xs))] Bool.true)) = (Option.some (Blk.mk (24 : Nat) [(D.v (Value.bool xn)), (D.ro (List.length xs) (u32s xs))] Bool.true))) ∧ (NamelessL [(D.v (Value.bool xn)), (D.ro (List.length xs) (u32s xs))])) ∧ (([] : List (Option Blk)) = ([] : List (Option Blk)))) ∧ ((True ∧ ((D.ptr (0 : Nat) (0 : Nat)) = (D.ptr (0 : Nat) (0 : Nat)))) ∧ ((True ∧ ((D.v (Value.int IntKind.u64 (((nv (List.drop j xs)) : Nat) : Int))) = (D.v (Value.int IntKind.u64 (((nv (List.drop j xs)) : Nat) : Int))))) ∧ ((True ∧ ((D.v (Value.int IntKind.i64 (((j : Nat) : Int) - (1 : Int)))) = (D.v (Value.int IntKind.i64 (((j : Nat) : Int) - (1 : Int)))))) ∧ True)))))) (by kernel_rfl) ?_
    simp [NamelessL, Nameless, u32s_nameless]
  · simp only [decide_eq_false_iff_not] at h
    have : x = 0 := by omega
    subst this
    refine of_eq (B := ((Bool.true = Bool.true) ∧ (((((Option.some (Blk.mk (24 : Nat) [(D.v (Value.bool xn)), (D.ro (List.length xs) (u32s xs))] Bool.true)) = (Option.some (Blk.mk (24 : Nat) [(D.v (Value.bool xn)), (D.ro (List.length xs) (u32s xs))] Bool.true))) ∧ (NamelessL [(D.v (Value.bool xn)), (D.ro (List.length xs) (u32s xs))])) ∧ (([] : List (Option Blk)) = ([] : List (Option Blk)))) ∧ ((True ∧ ((D.ptr (0 : Nat) (0 : Nat)) = (D.ptr (0 : Nat) (0 : Nat)))) ∧ ((True ∧ ((D.v (Value.int IntKind.u64 (((nv xs) : Nat) : Int))) = (D.v (Value.int IntKind.u64 (((nv xs) : Nat) : Int))))) ∧ True))))) (by kernel_rfl) ?_
    simp [NamelessL, Nameless, u32s_nameless]
theorem Small_pure (xn : Bool) (xs : List Nat) (hpre : Good xn xs ∧ xs.length ≤ 400) : PureJ Try.prog 16 [.agg [.v (.bool xn), .ro xs.length (u32s xs)]] (.tup [.v (.int .i64 (if fitsI (iv xn xs) then iv xn xs else 0)), .v (.bool (fitsI (iv xn xs)))]) := by
  refine pureJ_of_vcp (call := (addPure 18 ent_Valid noCalls)) (lp := fun k => bif Nat.beq k 5 then some (lp_smallLoop xn xs) else none) (N := 10) T_ok mixed (addPure_ok ent_Valid_ok noCalls_ok) Try.func16 rfl (by decide) (by kernel_rfl) (by kernel_rfl) (of_eq (B := LRuleP Try.prog Try.f16.ntmps (loopAt ((Try.f16.body).getD .skip) 5) (lp_smallLoop xn xs) ∧ True) (by kernel_rfl) ⟨smallLoop_rule xn xs hpre, trivial⟩) (by first | trivial | (simp only [NamelessL, Nameless, and_self, and_true, true_and]; done) | (simp [NamelessL, Nameless, u32s_nameless, namelessL_ints]; done)) (by first | trivial | (simp only [NamelessL, Nameless, and_self, and_true, true_and]; done) | (simp [NamelessL, Nameless, u32s_nameless, namelessL_ints]; done)) ?_
  refine of_eq (B := (True ∧ (True ∧ (True ∧ (((2 : Nat) ≤ (2 : Nat)) ∧ (((((u32s xs) = (u32s (unu (u32s xs)))) ∧ ((List.length xs) = (List.length (unu (u32s xs))))) ∧ ((List.length (unu (u32s xs))) ≤ (1000000000000 : Nat))) ∧ (True ∧ (True ∧ (pcond (!(validL xn (unu (u32s xs)))) (True ∧ (True ∧ (True ∧ (True ∧ ((True ∧ (True ∧ True)) ∧ ((D.tup [(D.v (Value.int IntKind.i64 (0 : Int))), (D.v (Value.bool Bool.false))]) = (D.tup [(D.v (Value.int IntKind.i64 (ite ((fitsI (iv xn xs)) = Bool.true) (iv xn xs) (0 : Int)))), (D.v (Value.bool (fitsI (iv xn xs))))]))))))) (True ∧ (((1 : Nat) < (2 : Nat)) ∧ (True ∧ (True ∧ (True ∧ (pcond (Decidable.decide ((2 : Int) < (((List.length xs) : Nat) : Int))) (True ∧ (True ∧ (True ∧ ((True ∧ (True ∧ True)) ∧ ((D.tup [(D.v (Value.int IntKind.i64 (0 : Int))), (D.v (Value.bool Bool.false))]) = (D.tup [(D.v (Value.int IntKind.i64 (ite ((fitsI (iv xn xs)) = Bool.true) (iv xn xs) (0 : Int)))), (D.v (Value.bool (fitsI (iv xn xs))))])))))) (True ∧ (True ∧ (((1 : Nat) < (2 : Nat)) ∧ (True ∧ (True ∧ (True ∧ ((((List.length xs) ≤ (List.length xs)) ∧ ((List.length xs) ≤ (2 : Nat))) ∧ (((Bool.true = Bool.true) ∧ (((((Option.some (Blk.mk (24 : Nat) [(D.v (Value.bool xn)), (D.ro (List.length xs) (u32s xs))] Bool.true)) = (Option.some (Blk.mk (24 : Nat) [(D.v (Value.bool xn)), (D.ro (List.length xs) (u32s xs))] Bool.true))) ∧ (NamelessL [(D.v (Value.bool xn)), (D.ro (List.length xs) (u32s xs))])) ∧ (([] : List (Option Blk)) = ([] : List (Option Blk)))) ∧ ((True ∧ ((D.ptr (0 : Nat) (0 : Nat)) = (D.ptr (0 : Nat) (0 : Nat)))) ∧ ((True ∧ ((D.v (Value.int IntKind.u64 (0 : Int))) = (D.v (Value.int IntKind.u64 (((nv (List.drop (List.length xs) xs)) : Nat) : Int))))) ∧ ((True ∧ ((D.v (Value.int IntKind.i64 (IntKind.wrap IntKind.i64 ((((List.length xs) : Nat) : Int) - (1 : Int))))) = (D.v (Value.int IntKind.i64 ((((List.length xs) : Nat) : Int) - (1 : Int)))))) ∧ True))))) ∧ (Unit → (True → (True ∧ ((((0 : Nat) < (2 : Nat)) ∧ (IsBool (D.v (Value.bool xn)))) ∧ (pcond xn (True ∧ (True ∧ (pcond (Decidable.decide ((9223372036854775808 : Int) < (((nv xs) : Nat) : Int))) (True ∧ (True ∧ (True ∧ ((True ∧ (True ∧ True)) ∧ ((D.tup [(D.v (Value.int IntKind.i64 (0 : Int))), (D.v (Value.bool Bool.false))]) = (D.tup [(D.v (Value.int IntKind.i64 (ite ((fitsI (iv xn xs)) = Bool.true) (iv xn xs) (0 : Int)))), (D.v (Value.bool (fitsI (iv xn xs))))])))))) (True ∧ (True ∧ (True ∧ (True ∧ (True ∧ (True ∧ (True ∧ ((True ∧ (True ∧ True)) ∧ ((D.tup [(D.v (Value.int IntKind.i64 (IntKind.wrap IntKind.i64 (IntKind.wrap IntKind.u64 ((bits BinOp.xor IntKind.u64 (18446744073709551615 : Int) (((nv xs) : Nat) : Int)) + (1 : Int)))))), (D.v (Value.bool Bool.true))]) = (D.tup [(D.v (Value.int IntKind.i64 (ite ((fitsI (iv xn xs)) = Bool.true) (iv xn xs) (0 : Int)))), (D.v (Value.bool (fitsI (iv xn xs))))]))))))))))))) (True ∧ (True ∧ (pcond (Decidable.decide ((9223372036854775808 : Int) ≤ (((nv xs) : Nat) : Int))) (True ∧ (True ∧ (True ∧ ((True ∧ (True ∧ True)) ∧ ((D.tup [(D.v (Value.int IntKind.i64 (0 : Int))), (D.v (Value.bool Bool.false))]) = (D.tup [(D.v (Value.int IntKind.i64 (ite ((fitsI (iv xn xs)) = Bool.true) (iv xn xs) (0 : Int)))), (D.v (Value.bool (fitsI (iv xn xs))))])))))) (True ∧ (True ∧ (True ∧ (True ∧ (True ∧ ((True ∧ (True ∧ True)) ∧ ((D.tup [(D.v (Value.int IntKind.i64 (IntKind.wrap IntKind.i64 (((nv xs) : Nat) : Int)))), (D.v (Value.bool Bool.true))]) = (D.tup [(D.v (Value.int IntKind.i64 (ite ((fitsI (iv xn xs)) = Bool.true) (iv xn xs) (0 : Int)))), (D.v (Value.bool (fitsI (iv xn xs))))]))))))))))))))))))))))))))))))))))))))) (by kernel_rfl) ?_
  obtain ⟨g, hl⟩ := hpre
  have hd := nv_lt (good_dig g)
  simp only [true_and, and_true, and_self, IsInt_lit, IsBool_lit, IsStr_lit, Bool.not_eq_true', Bool.not_eq_false', Bool.not_true, Bool.not_false, Int.reduceLE, Int.reduceLT, Int.reduceNeg, Nat.le_refl, Int.le_refl, Nat.reduceLT, Nat.reduceLeDiff, Nat.reduceEqDiff, D.v.injEq, D.tup.injEq, D.agg.injEq, D.ro.injEq, List.cons.injEq, Value.int.injEq, Value.bool.injEq, pcond_true, pcond_false, NamelessL, Nameless, Nat.reduceMul, Nat.reduceAdd, Nat.zero_add, Int.toNat_natCast, unu_u32s]
  rw [good_valid g hl]
  simp only [Bool.not_true, pcond_false]
  have hfit : fitsI (iv xn xs) = decide (if xn then nv xs ≤ 9223372036854775808 else nv xs < 9223372036854775808) := by
    unfold fitsI iv
    cases xn <;> rw [Bool.eq_iff_iff] <;> simp <;> omega
  rw [hfit]
  refine ⟨by omega, pcond_intro (fun h => ?_) (fun h => ?_)⟩
  · simp only [decide_eq_true_eq] at h
    have hbig : ¬ nv xs < 18446744073709551616 := fun k => by
      have := dg_length_le (v := nv xs) (k := 2) (by omega)
      rw [← g.1] at this
      omega
    cases xn <;> simp <;> omega
  · simp only [decide_eq_false_iff_not] at h
    have hs : nv xs < 18446744073709551616 := by
      have e : xs.length = 0 ∨ xs.length = 1 ∨ xs.length = 2 := by omega
      rcases e with e | e | e <;> rw [e] at hd <;> omega
    refine ⟨by omega, ⟨u32s_nameless xs, by rw [List.drop_length]; rfl, wrap_i64_of (by omega) (by omega)⟩, fun _ _ => pcond_intro (fun h1 => pcond_intro (fun h2 => ?_) (fun h2 => ?_)) (fun h1 => pcond_intro (fun h2 => ?_) (fun h2 => ?_))⟩
    · subst h1
      simp only [decide_eq_true_eq] at h2
      simp; omega
    · subst h1
      simp only [decide_eq_false_iff_not] at h2
      have e : IntKind.i64.wrap (IntKind.u64.wrap (Go.bits BinOp.xor IntKind.u64 18446744073709551615 (nv xs : Int) + 1)) = iv true xs := by
        rw [bits_not64 _ (by omega) (by omega), wrap_u64]
        unfold iv
        simp only [if_true]
        rw [IntKind.wrap_i64]; omega
      rw [e]
      have : nv xs ≤ 9223372036854775808 := by omega
      simp [this]
    · subst h1
      simp only [decide_eq_true_eq] at h2
      simp; omega
    · subst h1
      simp only [decide_eq_false_iff_not] at h2
      have : nv xs < 9223372036854775808 := by omega
      rw [wrap_i64_of (by omega) (by omega)]
      simp [this, iv]
def ent_Small : Ent := fun ds => match ds with
  | [.agg [.v (.bool xn), .ro n_xs ys_xs]] => some (.tup [.v (.int .i64 (if fitsI (iv xn (unu ys_xs)) then iv xn (unu ys_xs) else 0)), .v (.bool (fitsI (iv xn (unu ys_xs))))], (ys_xs = u32s (unu ys_xs) ∧ n_xs = (unu ys_xs).length) ∧ Good xn (unu ys_xs) ∧ (unu ys_xs).length ≤ 400)
  | _ => none
theorem ent_Small_ok : EntOk Try.prog 16 ent_Small := by
  intro ds d c h hc; unfold ent_Small at h; split at h
  · rename_i xn n_xs ys_xs; obtain ⟨rfl, rfl⟩ := pair_inj h
    obtain ⟨⟨h1, h2⟩, hc⟩ := hc; subst h2; generalize (unu ys_xs) = xs at *; subst h1
    exact Small_pure _ xs hc
  · cases h
end Go.Proofs.Ytgilijgbljgekaa
