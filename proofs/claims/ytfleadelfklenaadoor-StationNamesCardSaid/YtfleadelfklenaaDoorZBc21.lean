import Derived.Test.YtfleadelfklenaaDoorZBc20
section
namespace Go.Proofs.YtfleadelfklenaaDoor
open Go.VD
set_option linter.unusedVariables false
set_option linter.unusedSimpArgs false
set_option maxRecDepth 100000
theorem addBusAll_call (g : Dg) (f1 f2 f3 f4 : Bool) (l : List ByteArray) (hpre : (l.length ≤ maxLen ∧ ∀ x ∈ l, x.size ≤ maxLen) ∧ sizes g ∧ g.bu.length + l.length ≤ 1000) : CallJ Tryd.prog 34 [.ro l.length (busesD l), .fn 35 1 [.ptr 0 0]] ([d_dg g 1 2 3 4, d_b1 g.bu f1, d_b2 g.li f2, d_b3 g.so f3, d_b4 g.ba f4, d_mp g.es]) (.v (.int .i64 (runA buE buS l g f1).2.2)) ([d_dg ((runA buE buS l g f1).1) 6 2 3 4, none, d_b2 ((runA buE buS l g f1).1).li f2, d_b3 ((runA buE buS l g f1).1).so f3, d_b4 ((runA buE buS l g f1).1).ba f4, d_mp ((runA buE buS l g f1).1).es, d_b1 ((runA buE buS l g f1).1).bu ((runA buE buS l g f1).2.1)]) := by
  refine callJ_of_vck (k := 6) (call := noCalls) (lp := fun reg__ => bif Nat.beq reg__ 2 then some (lp_addBusLoop g f1 f1 f2 f3 f4 l) else none) (N := 10) T_ok mixed noCalls_ok Tryd.func34 rfl (by decide) (by kernel_rfl) (by kernel_rfl) rfl (of_eq (B := LRuleK 6 Tryd.prog Tryd.f34.ntmps (loopAt ((Tryd.f34.body).getD .skip) 2) (lp_addBusLoop g f1 f1 f2 f3 f4 l) ∧ True) (by kernel_rfl) ⟨addBusLoop_rule g f1 f1 f2 f3 f4 l hpre, trivial⟩) ?_
  refine of_eq (B := letI z13 := (D.v (Value.map (Option.none))); letI z16 := (D.v (Value.bool Bool.false)); letI z21 := (D.v (Value.bool Bool.true)); letI z4 := (D.v (Value.int IntKind.i64 (1 : Int))); letI z5 := (D.v (Value.int IntKind.i64 (2 : Int))); letI z3 := (D.v (Value.string (ByteArray.mk (Array.mk ([] : List UInt8))))); letI z0 := (List.cons z13 (List.cons z16 (List.cons z21 (List.cons z4 (List.cons z5 (List.cons z3 (elsD (Dg.es g)))))))); letI z1 := runA buE buS l g f1; letI z11 := (1000000007 : Nat); letI z2 := (D.ifc z11 (D.ptr (5 : Nat) (0 : Nat))); letI z24 := (Cap.toEnd (12 : Nat)); letI z6 := (D.sl (4 : Nat) (0 : Nat) (List.length (Dg.ba g)) z24); letI z36 := (List.length (Dg.bu g)); letI z27 := (Cap.toEnd (1 : Nat)); letI z7 := (D.sl (6 : Nat) (0 : Nat) z36 z27); letI z28 := (Cap.toEnd (5 : Nat)); letI z8 := (D.sl (2 : Nat) (0 : Nat) (List.length (Dg.li g)) z28); letI z29 := (Cap.toEnd (6 : Nat)); letI z9 := (D.sl (3 : Nat) (0 : Nat) (List.length (Dg.so g)) z29); letI z10 := List.length l; letI z12 := (d_dg (Prod.fst z1) (6 : Nat) (2 : Nat) (3 : Nat) (4 : Nat)); letI z14 := (D.fn (35 : Nat) (1 : Nat) [(D.ptr (0 : Nat) (0 : Nat))]); letI z15 := (Option.some (Blk.mk (57 : Nat) (linesD (Dg.li g)) f2)); letI z17 := (Option.some (Blk.mk (60 : Nat) (srcsD (Dg.so g)) f3)); letI z18 := (Option.some (Blk.mk (52 : Nat) (baysD (Dg.ba g)) f4)); letI z19 := (Option.some (Blk.mk (9 : Nat) (busesD (Dg.bu g)) f1)); letI z20 := (D.v (Value.int IntKind.i64 (Prod.snd (Prod.snd z1)))); letI z22 := (d_b1 (Dg.bu (Prod.fst z1)) (Prod.fst (Prod.snd z1))); letI z23 := (D.v (Value.int IntKind.i64 ((z10 : Nat) : Int))); letI z25 := (Option.some (Blk.mk z11 z0 Bool.true)); letI z26 := (D.v (Value.int IntKind.i64 (0 : Int))); letI z30 := (d_b2 (Dg.li (Prod.fst z1)) f2); letI z31 := (d_b3 (Dg.so (Prod.fst z1)) f3); letI z32 := (d_b4 (Dg.ba (Prod.fst z1)) f4); letI z33 := (D.v (Value.string (Dg.nm g))); letI z34 := (d_mp (Dg.es (Prod.fst z1))); letI z35 := ([] : List (Option Blk)); letI z37 := Bool.true = Bool.true; letI z38 := (D.ro z10 (busesD l)); (True ∧ (True ∧ (True ∧ (True ∧ (((((0 : Nat) ≤ z10) ∧ (z1 = z1)) ∧ ((sizes g) ∧ ((z36 + (z10 - (0 : Nat))) ≤ (1000 : Nat)))) ∧ ((z37 ∧ ((((((68 : Nat) = (68 : Nat)) ∧ z37) ∧ ((True ∧ (z33 = z33)) ∧ ((True ∧ (z7 = z7)) ∧ ((True ∧ (z8 = z8)) ∧ ((True ∧ (z9 = z9)) ∧ ((True ∧ (z6 = z6)) ∧ ((True ∧ (z2 = z2)) ∧ (([] : List D) = ([] : List D))))))))) ∧ (((z15 = z15) ∧ (NamelessL (linesD (Dg.li g)))) ∧ (((z17 = z17) ∧ (NamelessL (srcsD (Dg.so g)))) ∧ (((z18 = z18) ∧ (NamelessL (baysD (Dg.ba g)))) ∧ (((z25 = z25) ∧ (NamelessL z0)) ∧ (((z19 = z19) ∧ (NamelessL (busesD (Dg.bu g)))) ∧ (z35 = z35))))))) ∧ (((True ∧ True) ∧ (z14 = z14)) ∧ ((True ∧ (z38 = z38)) ∧ ((True ∧ (z23 = z23)) ∧ ((True ∧ (z26 = (D.v (Value.int IntKind.i64 (((0 : Nat) : Nat) : Int))))) ∧ True)))))) ∧ ((∀ (r : (Prod Dg Bool)), ((z1 = (Prod.mk (Prod.fst r) (Prod.mk (Prod.snd r) (0 : Int)))) → (True ∧ (True ∧ (∃ (kp : (List KE)), (viewFin (6 : Nat) kp [(Option.some (Blk.mk (68 : Nat) [(D.v (Value.string (Dg.nm (Prod.fst r)))), (D.sl (6 : Nat) (0 : Nat) (List.length (Dg.bu (Prod.fst r))) z27), (D.sl (2 : Nat) (0 : Nat) (List.length (Dg.li (Prod.fst r))) z28), (D.sl (3 : Nat) (0 : Nat) (List.length (Dg.so (Prod.fst r))) z29), (D.sl (4 : Nat) (0 : Nat) (List.length (Dg.ba (Prod.fst r))) z24), z2] Bool.true)), (Option.none), (Option.some (Blk.mk (57 : Nat) (linesD (Dg.li (Prod.fst r))) f2)), (Option.some (Blk.mk (60 : Nat) (srcsD (Dg.so (Prod.fst r))) f3)), (Option.some (Blk.mk (52 : Nat) (baysD (Dg.ba (Prod.fst r))) f4)), (Option.some (Blk.mk z11 (List.cons z13 (List.cons z16 (List.cons z21 (List.cons z4 (List.cons z5 (List.cons z3 (elsD (Dg.es (Prod.fst r))))))))) Bool.true)), (Option.some (Blk.mk (9 : Nat) (busesD (Dg.bu (Prod.fst r))) (Prod.snd r)))] z26 z20 [z12, (Option.none), z30, z31, z32, z34, z22])))))) ∧ (∀ (r : (Prod Dg (Prod Bool Int))), ((z1 = r) → (True ∧ (∃ (kp : (List KE)), (viewFin (6 : Nat) kp [(Option.some (Blk.mk (68 : Nat) [(D.v (Value.string (Dg.nm (Prod.fst r)))), (D.sl (6 : Nat) (0 : Nat) (List.length (Dg.bu (Prod.fst r))) z27), (D.sl (2 : Nat) (0 : Nat) (List.length (Dg.li (Prod.fst r))) z28), (D.sl (3 : Nat) (0 : Nat) (List.length (Dg.so (Prod.fst r))) z29), (D.sl (4 : Nat) (0 : Nat) (List.length (Dg.ba (Prod.fst r))) z24), z2] Bool.true)), (Option.none), (Option.some (Blk.mk (57 : Nat) (linesD (Dg.li (Prod.fst r))) f2)), (Option.some (Blk.mk (60 : Nat) (srcsD (Dg.so (Prod.fst r))) f3)), (Option.some (Blk.mk (52 : Nat) (baysD (Dg.ba (Prod.fst r))) f4)), (Option.some (Blk.mk z11 (List.cons z13 (List.cons z16 (List.cons z21 (List.cons z4 (List.cons z5 (List.cons z3 (elsD (Dg.es (Prod.fst r))))))))) Bool.true)), (Option.some (Blk.mk (9 : Nat) (busesD (Dg.bu (Prod.fst r))) (Prod.fst (Prod.snd r))))] (D.v (Value.int IntKind.i64 (Prod.snd (Prod.snd r)))) z20 [z12, (Option.none), z30, z31, z32, z34, z22]))))))))))))) (by kernel_rfl) ?_
  obtain ⟨⟨hm, hok⟩, hz, hsum⟩ := hpre
  simp only [true_and, and_true, and_self, IsInt_lit, IsBool_lit, IsStr_lit, IsSl_lit, cellN_lit, cellL_lit, Bool.not_eq_true', Bool.not_eq_false', Bool.not_true, Bool.not_false, Int.reduceLE, Int.reduceLT, Int.reduceNeg, Nat.le_refl, Int.le_refl, Nat.reduceLT, Nat.reduceLeDiff, Nat.reduceEqDiff, D.v.injEq, D.tup.injEq, D.agg.injEq, D.ro.injEq, List.cons.injEq, Value.int.injEq, Value.bool.injEq, pcond_true, pcond_false, NamelessL, Nameless, Nat.reduceMul, Nat.reduceAdd, Nat.zero_add, Int.toNat_natCast]
  refine ⟨⟨Nat.zero_le _, hz, by omega⟩, ⟨⟨linesD_nl _, srcsD_nl _, baysD_nl _, elsD_nl _, busesD_nl _⟩, rfl⟩, fun r hr => ?_, fun r hr => ?_⟩
  · rw [hr]
    exact ⟨[.nam 0, .dead, .old 2, .old 3, .old 4, .old 5, .old 6], rfl, ⟨⟨⟨rfl, rfl⟩, ⟨trivial, rfl⟩, ⟨trivial, rfl⟩, ⟨trivial, rfl⟩, ⟨trivial, rfl⟩, ⟨trivial, rfl⟩, ⟨trivial, rfl⟩, rfl⟩, ⟨rfl, linesD_nl _⟩, ⟨rfl, srcsD_nl _⟩, ⟨rfl, baysD_nl _⟩, ⟨rfl, mpD_nl _⟩, ⟨rfl, busesD_nl _⟩, rfl⟩, ⟨trivial, rfl⟩⟩
  · rw [hr]
    exact ⟨[.nam 0, .dead, .old 2, .old 3, .old 4, .old 5, .old 6], rfl, ⟨⟨⟨rfl, rfl⟩, ⟨trivial, rfl⟩, ⟨trivial, rfl⟩, ⟨trivial, rfl⟩, ⟨trivial, rfl⟩, ⟨trivial, rfl⟩, ⟨trivial, rfl⟩, rfl⟩, ⟨rfl, linesD_nl _⟩, ⟨rfl, srcsD_nl _⟩, ⟨rfl, baysD_nl _⟩, ⟨rfl, mpD_nl _⟩, ⟨rfl, busesD_nl _⟩, rfl⟩, ⟨trivial, rfl⟩⟩
theorem addLineAll_call (g : Dg) (f1 f2 f3 f4 : Bool) (l : List Lin) (hpre : (l.length ≤ maxLen ∧ ∀ x ∈ l, okLin x) ∧ sizes g ∧ g.li.length + l.length ≤ 1000) : CallJ Tryd.prog 36 [.ro l.length (linesD l), .fn 37 1 [.ptr 0 0]] ([d_dg g 1 2 3 4, d_b1 g.bu f1, d_b2 g.li f2, d_b3 g.so f3, d_b4 g.ba f4, d_mp g.es]) (.v (.int .i64 (runA liE liS l g f2).2.2)) ([d_dg ((runA liE liS l g f2).1) 1 6 3 4, d_b1 ((runA liE liS l g f2).1).bu f1, none, d_b3 ((runA liE liS l g f2).1).so f3, d_b4 ((runA liE liS l g f2).1).ba f4, d_mp ((runA liE liS l g f2).1).es, d_b2 ((runA liE liS l g f2).1).li ((runA liE liS l g f2).2.1)]) := by
  refine callJ_of_vck (k := 6) (call := noCalls) (lp := fun reg__ => bif Nat.beq reg__ 2 then some (lp_addLineLoop g f2 f1 f2 f3 f4 l) else none) (N := 10) T_ok mixed noCalls_ok Tryd.func36 rfl (by decide) (by kernel_rfl) (by kernel_rfl) rfl (of_eq (B := LRuleK 6 Tryd.prog Tryd.f36.ntmps (loopAt ((Tryd.f36.body).getD .skip) 2) (lp_addLineLoop g f2 f1 f2 f3 f4 l) ∧ True) (by kernel_rfl) ⟨addLineLoop_rule g f2 f1 f2 f3 f4 l hpre, trivial⟩) ?_
  refine of_eq (B := letI z13 := (D.v (Value.map (Option.none))); letI z16 := (D.v (Value.bool Bool.false)); letI z21 := (D.v (Value.bool Bool.true)); letI z4 := (D.v (Value.int IntKind.i64 (1 : Int))); letI z5 := (D.v (Value.int IntKind.i64 (2 : Int))); letI z3 := (D.v (Value.string (ByteArray.mk (Array.mk ([] : List UInt8))))); letI z0 := (List.cons z13 (List.cons z16 (List.cons z21 (List.cons z4 (List.cons z5 (List.cons z3 (elsD (Dg.es g)))))))); letI z1 := runA liE liS l g f2; letI z11 := (1000000007 : Nat); letI z2 := (D.ifc z11 (D.ptr (5 : Nat) (0 : Nat))); letI z24 := (Cap.toEnd (12 : Nat)); letI z6 := (D.sl (4 : Nat) (0 : Nat) (List.length (Dg.ba g)) z24); letI z27 := (Cap.toEnd (1 : Nat)); letI z7 := (D.sl (1 : Nat) (0 : Nat) (List.length (Dg.bu g)) z27); letI z36 := (List.length (Dg.li g)); letI z28 := (Cap.toEnd (5 : Nat)); letI z8 := (D.sl (6 : Nat) (0 : Nat) z36 z28); letI z29 := (Cap.toEnd (6 : Nat)); letI z9 := (D.sl (3 : Nat) (0 : Nat) (List.length (Dg.so g)) z29); letI z10 := List.length l; letI z12 := (d_dg (Prod.fst z1) (1 : Nat) (6 : Nat) (3 : Nat) (4 : Nat)); letI z14 := (D.fn (37 : Nat) (1 : Nat) [(D.ptr (0 : Nat) (0 : Nat))]); letI z15 := (Option.some (Blk.mk (57 : Nat) (linesD (Dg.li g)) f2)); letI z17 := (Option.some (Blk.mk (9 : Nat) (busesD (Dg.bu g)) f1)); letI z18 := (Option.some (Blk.mk (60 : Nat) (srcsD (Dg.so g)) f3)); letI z19 := (Option.some (Blk.mk (52 : Nat) (baysD (Dg.ba g)) f4)); letI z20 := (D.v (Value.int IntKind.i64 (Prod.snd (Prod.snd z1)))); letI z22 := (d_b2 (Dg.li (Prod.fst z1)) (Prod.fst (Prod.snd z1))); letI z23 := (D.v (Value.int IntKind.i64 ((z10 : Nat) : Int))); letI z25 := (Option.some (Blk.mk z11 z0 Bool.true)); letI z26 := (D.v (Value.int IntKind.i64 (0 : Int))); letI z30 := (d_b1 (Dg.bu (Prod.fst z1)) f1); letI z31 := (d_b3 (Dg.so (Prod.fst z1)) f3); letI z32 := (d_b4 (Dg.ba (Prod.fst z1)) f4); letI z33 := (D.v (Value.string (Dg.nm g))); letI z34 := (d_mp (Dg.es (Prod.fst z1))); letI z35 := ([] : List (Option Blk)); letI z37 := Bool.true = Bool.true; letI z38 := (D.ro z10 (linesD l)); (True ∧ (True ∧ (True ∧ (True ∧ (((((0 : Nat) ≤ z10) ∧ (z1 = z1)) ∧ ((sizes g) ∧ ((z36 + (z10 - (0 : Nat))) ≤ (1000 : Nat)))) ∧ ((z37 ∧ ((((((68 : Nat) = (68 : Nat)) ∧ z37) ∧ ((True ∧ (z33 = z33)) ∧ ((True ∧ (z7 = z7)) ∧ ((True ∧ (z8 = z8)) ∧ ((True ∧ (z9 = z9)) ∧ ((True ∧ (z6 = z6)) ∧ ((True ∧ (z2 = z2)) ∧ (([] : List D) = ([] : List D))))))))) ∧ (((z17 = z17) ∧ (NamelessL (busesD (Dg.bu g)))) ∧ (((z18 = z18) ∧ (NamelessL (srcsD (Dg.so g)))) ∧ (((z19 = z19) ∧ (NamelessL (baysD (Dg.ba g)))) ∧ (((z25 = z25) ∧ (NamelessL z0)) ∧ (((z15 = z15) ∧ (NamelessL (linesD (Dg.li g)))) ∧ (z35 = z35))))))) ∧ (((True ∧ True) ∧ (z14 = z14)) ∧ ((True ∧ (z38 = z38)) ∧ ((True ∧ (z23 = z23)) ∧ ((True ∧ (z26 = (D.v (Value.int IntKind.i64 (((0 : Nat) : Nat) : Int))))) ∧ True)))))) ∧ ((∀ (r : (Prod Dg Bool)), ((z1 = (Prod.mk (Prod.fst r) (Prod.mk (Prod.snd r) (0 : Int)))) → (True ∧ (True ∧ (∃ (kp : (List KE)), (viewFin (6 : Nat) kp [(Option.some (Blk.mk (68 : Nat) [(D.v (Value.string (Dg.nm (Prod.fst r)))), (D.sl (1 : Nat) (0 : Nat) (List.length (Dg.bu (Prod.fst r))) z27), (D.sl (6 : Nat) (0 : Nat) (List.length (Dg.li (Prod.fst r))) z28), (D.sl (3 : Nat) (0 : Nat) (List.length (Dg.so (Prod.fst r))) z29), (D.sl (4 : Nat) (0 : Nat) (List.length (Dg.ba (Prod.fst r))) z24), z2] Bool.true)), (Option.some (Blk.mk (9 : Nat) (busesD (Dg.bu (Prod.fst r))) f1)), (Option.none), (Option.some (Blk.mk (60 : Nat) (srcsD (Dg.so (Prod.fst r))) f3)), (Option.some (Blk.mk (52 : Nat) (baysD (Dg.ba (Prod.fst r))) f4)), (Option.some (Blk.mk z11 (List.cons z13 (List.cons z16 (List.cons z21 (List.cons z4 (List.cons z5 (List.cons z3 (elsD (Dg.es (Prod.fst r))))))))) Bool.true)), (Option.some (Blk.mk (57 : Nat) (linesD (Dg.li (Prod.fst r))) (Prod.snd r)))] z26 z20 [z12, z30, (Option.none), z31, z32, z34, z22])))))) ∧ (∀ (r : (Prod Dg (Prod Bool Int))), ((z1 = r) → (True ∧ (∃ (kp : (List KE)), (viewFin (6 : Nat) kp [(Option.some (Blk.mk (68 : Nat) [(D.v (Value.string (Dg.nm (Prod.fst r)))), (D.sl (1 : Nat) (0 : Nat) (List.length (Dg.bu (Prod.fst r))) z27), (D.sl (6 : Nat) (0 : Nat) (List.length (Dg.li (Prod.fst r))) z28), (D.sl (3 : Nat) (0 : Nat) (List.length (Dg.so (Prod.fst r))) z29), (D.sl (4 : Nat) (0 : Nat) (List.length (Dg.ba (Prod.fst r))) z24), z2] Bool.true)), (Option.some (Blk.mk (9 : Nat) (busesD (Dg.bu (Prod.fst r))) f1)), (Option.none), (Option.some (Blk.mk (60 : Nat) (srcsD (Dg.so (Prod.fst r))) f3)), (Option.some (Blk.mk (52 : Nat) (baysD (Dg.ba (Prod.fst r))) f4)), (Option.some (Blk.mk z11 (List.cons z13 (List.cons z16 (List.cons z21 (List.cons z4 (List.cons z5 (List.cons z3 (elsD (Dg.es (Prod.fst r))))))))) Bool.true)), (Option.some (Blk.mk (57 : Nat) (linesD (Dg.li (Prod.fst r))) (Prod.fst (Prod.snd r))))] (D.v (Value.int IntKind.i64 (Prod.snd (Prod.snd r)))) z20 [z12, z30, (Option.none), z31, z32, z34, z22]))))))))))))) (by kernel_rfl) ?_
  obtain ⟨⟨hm, hok⟩, hz, hsum⟩ := hpre
  simp only [true_and, and_true, and_self, IsInt_lit, IsBool_lit, IsStr_lit, IsSl_lit, cellN_lit, cellL_lit, Bool.not_eq_true', Bool.not_eq_false', Bool.not_true, Bool.not_false, Int.reduceLE, Int.reduceLT, Int.reduceNeg, Nat.le_refl, Int.le_refl, Nat.reduceLT, Nat.reduceLeDiff, Nat.reduceEqDiff, D.v.injEq, D.tup.injEq, D.agg.injEq, D.ro.injEq, List.cons.injEq, Value.int.injEq, Value.bool.injEq, pcond_true, pcond_false, NamelessL, Nameless, Nat.reduceMul, Nat.reduceAdd, Nat.zero_add, Int.toNat_natCast]
  refine ⟨⟨Nat.zero_le _, hz, by omega⟩, ⟨⟨busesD_nl _, srcsD_nl _, baysD_nl _, elsD_nl _, linesD_nl _⟩, rfl⟩, fun r hr => ?_, fun r hr => ?_⟩
  · rw [hr]
    exact ⟨[.nam 0, .old 1, .dead, .old 3, .old 4, .old 5, .old 6], rfl, ⟨⟨⟨rfl, rfl⟩, ⟨trivial, rfl⟩, ⟨trivial, rfl⟩, ⟨trivial, rfl⟩, ⟨trivial, rfl⟩, ⟨trivial, rfl⟩, ⟨trivial, rfl⟩, rfl⟩, ⟨rfl, busesD_nl _⟩, ⟨rfl, srcsD_nl _⟩, ⟨rfl, baysD_nl _⟩, ⟨rfl, mpD_nl _⟩, ⟨rfl, linesD_nl _⟩, rfl⟩, ⟨trivial, rfl⟩⟩
  · rw [hr]
    exact ⟨[.nam 0, .old 1, .dead, .old 3, .old 4, .old 5, .old 6], rfl, ⟨⟨⟨rfl, rfl⟩, ⟨trivial, rfl⟩, ⟨trivial, rfl⟩, ⟨trivial, rfl⟩, ⟨trivial, rfl⟩, ⟨trivial, rfl⟩, ⟨trivial, rfl⟩, rfl⟩, ⟨rfl, busesD_nl _⟩, ⟨rfl, srcsD_nl _⟩, ⟨rfl, baysD_nl _⟩, ⟨rfl, mpD_nl _⟩, ⟨rfl, linesD_nl _⟩, rfl⟩, ⟨trivial, rfl⟩⟩
theorem addSourceAll_call (g : Dg) (f1 f2 f3 f4 : Bool) (l : List Src) (hpre : (l.length ≤ maxLen ∧ ∀ x ∈ l, okSrc x) ∧ sizes g ∧ g.so.length + l.length ≤ 1000) : CallJ Tryd.prog 38 [.ro l.length (srcsD l), .fn 39 1 [.ptr 0 0]] ([d_dg g 1 2 3 4, d_b1 g.bu f1, d_b2 g.li f2, d_b3 g.so f3, d_b4 g.ba f4, d_mp g.es]) (.v (.int .i64 (runA soE soS l g f3).2.2)) ([d_dg ((runA soE soS l g f3).1) 1 2 6 4, d_b1 ((runA soE soS l g f3).1).bu f1, d_b2 ((runA soE soS l g f3).1).li f2, none, d_b4 ((runA soE soS l g f3).1).ba f4, d_mp ((runA soE soS l g f3).1).es, d_b3 ((runA soE soS l g f3).1).so ((runA soE soS l g f3).2.1)]) := by
  refine callJ_of_vck (k := 6) (call := noCalls) (lp := fun reg__ => bif Nat.beq reg__ 2 then some (lp_addSourceLoop g f3 f1 f2 f3 f4 l) else none) (N := 10) T_ok mixed noCalls_ok Tryd.func38 rfl (by decide) (by kernel_rfl) (by kernel_rfl) rfl (of_eq (B := LRuleK 6 Tryd.prog Tryd.f38.ntmps (loopAt ((Tryd.f38.body).getD .skip) 2) (lp_addSourceLoop g f3 f1 f2 f3 f4 l) ∧ True) (by kernel_rfl) ⟨addSourceLoop_rule g f3 f1 f2 f3 f4 l hpre, trivial⟩) ?_
  refine of_eq (B := letI z13 := (D.v (Value.map (Option.none))); letI z16 := (D.v (Value.bool Bool.false)); letI z21 := (D.v (Value.bool Bool.true)); letI z4 := (D.v (Value.int IntKind.i64 (1 : Int))); letI z5 := (D.v (Value.int IntKind.i64 (2 : Int))); letI z3 := (D.v (Value.string (ByteArray.mk (Array.mk ([] : List UInt8))))); letI z0 := (List.cons z13 (List.cons z16 (List.cons z21 (List.cons z4 (List.cons z5 (List.cons z3 (elsD (Dg.es g)))))))); letI z1 := runA soE soS l g f3; letI z11 := (1000000007 : Nat); letI z2 := (D.ifc z11 (D.ptr (5 : Nat) (0 : Nat))); letI z24 := (Cap.toEnd (12 : Nat)); letI z6 := (D.sl (4 : Nat) (0 : Nat) (List.length (Dg.ba g)) z24); letI z27 := (Cap.toEnd (1 : Nat)); letI z7 := (D.sl (1 : Nat) (0 : Nat) (List.length (Dg.bu g)) z27); letI z28 := (Cap.toEnd (5 : Nat)); letI z8 := (D.sl (2 : Nat) (0 : Nat) (List.length (Dg.li g)) z28); letI z36 := (List.length (Dg.so g)); letI z29 := (Cap.toEnd (6 : Nat)); letI z9 := (D.sl (6 : Nat) (0 : Nat) z36 z29); letI z10 := List.length l; letI z12 := (d_dg (Prod.fst z1) (1 : Nat) (2 : Nat) (6 : Nat) (4 : Nat)); letI z14 := (D.fn (39 : Nat) (1 : Nat) [(D.ptr (0 : Nat) (0 : Nat))]); letI z15 := (Option.some (Blk.mk (57 : Nat) (linesD (Dg.li g)) f2)); letI z17 := (Option.some (Blk.mk (9 : Nat) (busesD (Dg.bu g)) f1)); letI z18 := (Option.some (Blk.mk (52 : Nat) (baysD (Dg.ba g)) f4)); letI z19 := (Option.some (Blk.mk (60 : Nat) (srcsD (Dg.so g)) f3)); letI z20 := (D.v (Value.int IntKind.i64 (Prod.snd (Prod.snd z1)))); letI z22 := (d_b3 (Dg.so (Prod.fst z1)) (Prod.fst (Prod.snd z1))); letI z23 := (D.v (Value.int IntKind.i64 ((z10 : Nat) : Int))); letI z25 := (Option.some (Blk.mk z11 z0 Bool.true)); letI z26 := (D.v (Value.int IntKind.i64 (0 : Int))); letI z30 := (d_b1 (Dg.bu (Prod.fst z1)) f1); letI z31 := (d_b2 (Dg.li (Prod.fst z1)) f2); letI z32 := (d_b4 (Dg.ba (Prod.fst z1)) f4); letI z33 := (D.v (Value.string (Dg.nm g))); letI z34 := (d_mp (Dg.es (Prod.fst z1))); letI z35 := ([] : List (Option Blk)); letI z37 := Bool.true = Bool.true; letI z38 := (D.ro z10 (srcsD l)); (True ∧ (True ∧ (True ∧ (True ∧ (((((0 : Nat) ≤ z10) ∧ (z1 = z1)) ∧ ((sizes g) ∧ ((z36 + (z10 - (0 : Nat))) ≤ (1000 : Nat)))) ∧ ((z37 ∧ ((((((68 : Nat) = (68 : Nat)) ∧ z37) ∧ ((True ∧ (z33 = z33)) ∧ ((True ∧ (z7 = z7)) ∧ ((True ∧ (z8 = z8)) ∧ ((True ∧ (z9 = z9)) ∧ ((True ∧ (z6 = z6)) ∧ ((True ∧ (z2 = z2)) ∧ (([] : List D) = ([] : List D))))))))) ∧ (((z17 = z17) ∧ (NamelessL (busesD (Dg.bu g)))) ∧ (((z15 = z15) ∧ (NamelessL (linesD (Dg.li g)))) ∧ (((z18 = z18) ∧ (NamelessL (baysD (Dg.ba g)))) ∧ (((z25 = z25) ∧ (NamelessL z0)) ∧ (((z19 = z19) ∧ (NamelessL (srcsD (Dg.so g)))) ∧ (z35 = z35))))))) ∧ (((True ∧ True) ∧ (z14 = z14)) ∧ ((True ∧ (z38 = z38)) ∧ ((True ∧ (z23 = z23)) ∧ ((True ∧ (z26 = (D.v (Value.int IntKind.i64 (((0 : Nat) : Nat) : Int))))) ∧ True)))))) ∧ ((∀ (r : (Prod Dg Bool)), ((z1 = (Prod.mk (Prod.fst r) (Prod.mk (Prod.snd r) (0 : Int)))) → (True ∧ (True ∧ (∃ (kp : (List KE)), (viewFin (6 : Nat) kp [(Option.some (Blk.mk (68 : Nat) [(D.v (Value.string (Dg.nm (Prod.fst r)))), (D.sl (1 : Nat) (0 : Nat) (List.length (Dg.bu (Prod.fst r))) z27), (D.sl (2 : Nat) (0 : Nat) (List.length (Dg.li (Prod.fst r))) z28), (D.sl (6 : Nat) (0 : Nat) (List.length (Dg.so (Prod.fst r))) z29), (D.sl (4 : Nat) (0 : Nat) (List.length (Dg.ba (Prod.fst r))) z24), z2] Bool.true)), (Option.some (Blk.mk (9 : Nat) (busesD (Dg.bu (Prod.fst r))) f1)), (Option.some (Blk.mk (57 : Nat) (linesD (Dg.li (Prod.fst r))) f2)), (Option.none), (Option.some (Blk.mk (52 : Nat) (baysD (Dg.ba (Prod.fst r))) f4)), (Option.some (Blk.mk z11 (List.cons z13 (List.cons z16 (List.cons z21 (List.cons z4 (List.cons z5 (List.cons z3 (elsD (Dg.es (Prod.fst r))))))))) Bool.true)), (Option.some (Blk.mk (60 : Nat) (srcsD (Dg.so (Prod.fst r))) (Prod.snd r)))] z26 z20 [z12, z30, z31, (Option.none), z32, z34, z22])))))) ∧ (∀ (r : (Prod Dg (Prod Bool Int))), ((z1 = r) → (True ∧ (∃ (kp : (List KE)), (viewFin (6 : Nat) kp [(Option.some (Blk.mk (68 : Nat) [(D.v (Value.string (Dg.nm (Prod.fst r)))), (D.sl (1 : Nat) (0 : Nat) (List.length (Dg.bu (Prod.fst r))) z27), (D.sl (2 : Nat) (0 : Nat) (List.length (Dg.li (Prod.fst r))) z28), (D.sl (6 : Nat) (0 : Nat) (List.length (Dg.so (Prod.fst r))) z29), (D.sl (4 : Nat) (0 : Nat) (List.length (Dg.ba (Prod.fst r))) z24), z2] Bool.true)), (Option.some (Blk.mk (9 : Nat) (busesD (Dg.bu (Prod.fst r))) f1)), (Option.some (Blk.mk (57 : Nat) (linesD (Dg.li (Prod.fst r))) f2)), (Option.none), (Option.some (Blk.mk (52 : Nat) (baysD (Dg.ba (Prod.fst r))) f4)), (Option.some (Blk.mk z11 (List.cons z13 (List.cons z16 (List.cons z21 (List.cons z4 (List.cons z5 (List.cons z3 (elsD (Dg.es (Prod.fst r))))))))) Bool.true)), (Option.some (Blk.mk (60 : Nat) (srcsD (Dg.so (Prod.fst r))) (Prod.fst (Prod.snd r))))] (D.v (Value.int IntKind.i64 (Prod.snd (Prod.snd r)))) z20 [z12, z30, z31, (Option.none), z32, z34, z22]))))))))))))) (by kernel_rfl) ?_
  obtain ⟨⟨hm, hok⟩, hz, hsum⟩ := hpre
  simp only [true_and, and_true, and_self, IsInt_lit, IsBool_lit, IsStr_lit, IsSl_lit, cellN_lit, cellL_lit, Bool.not_eq_true', Bool.not_eq_false', Bool.not_true, Bool.not_false, Int.reduceLE, Int.reduceLT, Int.reduceNeg, Nat.le_refl, Int.le_refl, Nat.reduceLT, Nat.reduceLeDiff, Nat.reduceEqDiff, D.v.injEq, D.tup.injEq, D.agg.injEq, D.ro.injEq, List.cons.injEq, Value.int.injEq, Value.bool.injEq, pcond_true, pcond_false, NamelessL, Nameless, Nat.reduceMul, Nat.reduceAdd, Nat.zero_add, Int.toNat_natCast]
  refine ⟨⟨Nat.zero_le _, hz, by omega⟩, ⟨⟨busesD_nl _, linesD_nl _, baysD_nl _, elsD_nl _, srcsD_nl _⟩, rfl⟩, fun r hr => ?_, fun r hr => ?_⟩
  · rw [hr]
    exact ⟨[.nam 0, .old 1, .old 2, .dead, .old 4, .old 5, .old 6], rfl, ⟨⟨⟨rfl, rfl⟩, ⟨trivial, rfl⟩, ⟨trivial, rfl⟩, ⟨trivial, rfl⟩, ⟨trivial, rfl⟩, ⟨trivial, rfl⟩, ⟨trivial, rfl⟩, rfl⟩, ⟨rfl, busesD_nl _⟩, ⟨rfl, linesD_nl _⟩, ⟨rfl, baysD_nl _⟩, ⟨rfl, mpD_nl _⟩, ⟨rfl, srcsD_nl _⟩, rfl⟩, ⟨trivial, rfl⟩⟩
  · rw [hr]
    exact ⟨[.nam 0, .old 1, .old 2, .dead, .old 4, .old 5, .old 6], rfl, ⟨⟨⟨rfl, rfl⟩, ⟨trivial, rfl⟩, ⟨trivial, rfl⟩, ⟨trivial, rfl⟩, ⟨trivial, rfl⟩, ⟨trivial, rfl⟩, ⟨trivial, rfl⟩, rfl⟩, ⟨rfl, busesD_nl _⟩, ⟨rfl, linesD_nl _⟩, ⟨rfl, baysD_nl _⟩, ⟨rfl, mpD_nl _⟩, ⟨rfl, srcsD_nl _⟩, rfl⟩, ⟨trivial, rfl⟩⟩
theorem addBayAll_call (g : Dg) (f1 f2 f3 f4 : Bool) (l : List Bay) (hpre : (l.length ≤ maxLen ∧ ∀ x ∈ l, okBay x) ∧ sizes g ∧ g.ba.length + l.length ≤ 1000) : CallJ Tryd.prog 40 [.ro l.length (baysD l), .fn 41 1 [.ptr 0 0]] ([d_dg g 1 2 3 4, d_b1 g.bu f1, d_b2 g.li f2, d_b3 g.so f3, d_b4 g.ba f4, d_mp g.es]) (.v (.int .i64 (runA baE baS l g f4).2.2)) ([d_dg ((runA baE baS l g f4).1) 1 2 3 6, d_b1 ((runA baE baS l g f4).1).bu f1, d_b2 ((runA baE baS l g f4).1).li f2, d_b3 ((runA baE baS l g f4).1).so f3, none, d_mp ((runA baE baS l g f4).1).es, d_b4 ((runA baE baS l g f4).1).ba ((runA baE baS l g f4).2.1)]) := by
  refine callJ_of_vck (k := 6) (call := noCalls) (lp := fun reg__ => bif Nat.beq reg__ 2 then some (lp_addBayLoop g f4 f1 f2 f3 f4 l) else none) (N := 10) T_ok mixed noCalls_ok Tryd.func40 rfl (by decide) (by kernel_rfl) (by kernel_rfl) rfl (of_eq (B := LRuleK 6 Tryd.prog Tryd.f40.ntmps (loopAt ((Tryd.f40.body).getD .skip) 2) (lp_addBayLoop g f4 f1 f2 f3 f4 l) ∧ True) (by kernel_rfl) ⟨addBayLoop_rule g f4 f1 f2 f3 f4 l hpre, trivial⟩) ?_
  refine of_eq (B := letI z13 := (D.v (Value.map (Option.none))); letI z16 := (D.v (Value.bool Bool.false)); letI z21 := (D.v (Value.bool Bool.true)); letI z4 := (D.v (Value.int IntKind.i64 (1 : Int))); letI z5 := (D.v (Value.int IntKind.i64 (2 : Int))); letI z3 := (D.v (Value.string (ByteArray.mk (Array.mk ([] : List UInt8))))); letI z0 := (List.cons z13 (List.cons z16 (List.cons z21 (List.cons z4 (List.cons z5 (List.cons z3 (elsD (Dg.es g)))))))); letI z1 := runA baE baS l g f4; letI z11 := (1000000007 : Nat); letI z2 := (D.ifc z11 (D.ptr (5 : Nat) (0 : Nat))); letI z36 := (List.length (Dg.ba g)); letI z24 := (Cap.toEnd (12 : Nat)); letI z6 := (D.sl (6 : Nat) (0 : Nat) z36 z24); letI z27 := (Cap.toEnd (1 : Nat)); letI z7 := (D.sl (1 : Nat) (0 : Nat) (List.length (Dg.bu g)) z27); letI z28 := (Cap.toEnd (5 : Nat)); letI z8 := (D.sl (2 : Nat) (0 : Nat) (List.length (Dg.li g)) z28); letI z29 := (Cap.toEnd (6 : Nat)); letI z9 := (D.sl (3 : Nat) (0 : Nat) (List.length (Dg.so g)) z29); letI z10 := List.length l; letI z12 := (d_dg (Prod.fst z1) (1 : Nat) (2 : Nat) (3 : Nat) (6 : Nat)); letI z14 := (D.fn (41 : Nat) (1 : Nat) [(D.ptr (0 : Nat) (0 : Nat))]); letI z15 := (Option.some (Blk.mk (57 : Nat) (linesD (Dg.li g)) f2)); letI z17 := (Option.some (Blk.mk (9 : Nat) (busesD (Dg.bu g)) f1)); letI z18 := (Option.some (Blk.mk (60 : Nat) (srcsD (Dg.so g)) f3)); letI z19 := (Option.some (Blk.mk (52 : Nat) (baysD (Dg.ba g)) f4)); letI z20 := (D.v (Value.int IntKind.i64 (Prod.snd (Prod.snd z1)))); letI z22 := (d_b4 (Dg.ba (Prod.fst z1)) (Prod.fst (Prod.snd z1))); letI z23 := (D.v (Value.int IntKind.i64 ((z10 : Nat) : Int))); letI z25 := (Option.some (Blk.mk z11 z0 Bool.true)); letI z26 := (D.v (Value.int IntKind.i64 (0 : Int))); letI z30 := (d_b1 (Dg.bu (Prod.fst z1)) f1); letI z31 := (d_b2 (Dg.li (Prod.fst z1)) f2); letI z32 := (d_b3 (Dg.so (Prod.fst z1)) f3); letI z33 := (D.v (Value.string (Dg.nm g))); letI z34 := (d_mp (Dg.es (Prod.fst z1))); letI z35 := ([] : List (Option Blk)); letI z37 := Bool.true = Bool.true; letI z38 := (D.ro z10 (baysD l)); (True ∧ (True ∧ (True ∧ (True ∧ (((((0 : Nat) ≤ z10) ∧ (z1 = z1)) ∧ ((sizes g) ∧ ((z36 + (z10 - (0 : Nat))) ≤ (1000 : Nat)))) ∧ ((z37 ∧ ((((((68 : Nat) = (68 : Nat)) ∧ z37) ∧ ((True ∧ (z33 = z33)) ∧ ((True ∧ (z7 = z7)) ∧ ((True ∧ (z8 = z8)) ∧ ((True ∧ (z9 = z9)) ∧ ((True ∧ (z6 = z6)) ∧ ((True ∧ (z2 = z2)) ∧ (([] : List D) = ([] : List D))))))))) ∧ (((z17 = z17) ∧ (NamelessL (busesD (Dg.bu g)))) ∧ (((z15 = z15) ∧ (NamelessL (linesD (Dg.li g)))) ∧ (((z18 = z18) ∧ (NamelessL (srcsD (Dg.so g)))) ∧ (((z25 = z25) ∧ (NamelessL z0)) ∧ (((z19 = z19) ∧ (NamelessL (baysD (Dg.ba g)))) ∧ (z35 = z35))))))) ∧ (((True ∧ True) ∧ (z14 = z14)) ∧ ((True ∧ (z38 = z38)) ∧ ((True ∧ (z23 = z23)) ∧ ((True ∧ (z26 = (D.v (Value.int IntKind.i64 (((0 : Nat) : Nat) : Int))))) ∧ True)))))) ∧ ((∀ (r : (Prod Dg Bool)), ((z1 = (Prod.mk (Prod.fst r) (Prod.mk (Prod.snd r) (0 : Int)))) → (True ∧ (True ∧ (∃ (kp : (List KE)), (viewFin (6 : Nat) kp [(Option.some (Blk.mk (68 : Nat) [(D.v (Value.string (Dg.nm (Prod.fst r)))), (D.sl (1 : Nat) (0 : Nat) (List.length (Dg.bu (Prod.fst r))) z27), (D.sl (2 : Nat) (0 : Nat) (List.length (Dg.li (Prod.fst r))) z28), (D.sl (3 : Nat) (0 : Nat) (List.length (Dg.so (Prod.fst r))) z29), (D.sl (6 : Nat) (0 : Nat) (List.length (Dg.ba (Prod.fst r))) z24), z2] Bool.true)), (Option.some (Blk.mk (9 : Nat) (busesD (Dg.bu (Prod.fst r))) f1)), (Option.some (Blk.mk (57 : Nat) (linesD (Dg.li (Prod.fst r))) f2)), (Option.some (Blk.mk (60 : Nat) (srcsD (Dg.so (Prod.fst r))) f3)), (Option.none), (Option.some (Blk.mk z11 (List.cons z13 (List.cons z16 (List.cons z21 (List.cons z4 (List.cons z5 (List.cons z3 (elsD (Dg.es (Prod.fst r))))))))) Bool.true)), (Option.some (Blk.mk (52 : Nat) (baysD (Dg.ba (Prod.fst r))) (Prod.snd r)))] z26 z20 [z12, z30, z31, z32, (Option.none), z34, z22])))))) ∧ (∀ (r : (Prod Dg (Prod Bool Int))), ((z1 = r) → (True ∧ (∃ (kp : (List KE)), (viewFin (6 : Nat) kp [(Option.some (Blk.mk (68 : Nat) [(D.v (Value.string (Dg.nm (Prod.fst r)))), (D.sl (1 : Nat) (0 : Nat) (List.length (Dg.bu (Prod.fst r))) z27), (D.sl (2 : Nat) (0 : Nat) (List.length (Dg.li (Prod.fst r))) z28), (D.sl (3 : Nat) (0 : Nat) (List.length (Dg.so (Prod.fst r))) z29), (D.sl (6 : Nat) (0 : Nat) (List.length (Dg.ba (Prod.fst r))) z24), z2] Bool.true)), (Option.some (Blk.mk (9 : Nat) (busesD (Dg.bu (Prod.fst r))) f1)), (Option.some (Blk.mk (57 : Nat) (linesD (Dg.li (Prod.fst r))) f2)), (Option.some (Blk.mk (60 : Nat) (srcsD (Dg.so (Prod.fst r))) f3)), (Option.none), (Option.some (Blk.mk z11 (List.cons z13 (List.cons z16 (List.cons z21 (List.cons z4 (List.cons z5 (List.cons z3 (elsD (Dg.es (Prod.fst r))))))))) Bool.true)), (Option.some (Blk.mk (52 : Nat) (baysD (Dg.ba (Prod.fst r))) (Prod.fst (Prod.snd r))))] (D.v (Value.int IntKind.i64 (Prod.snd (Prod.snd r)))) z20 [z12, z30, z31, z32, (Option.none), z34, z22]))))))))))))) (by kernel_rfl) ?_
  obtain ⟨⟨hm, hok⟩, hz, hsum⟩ := hpre
  simp only [true_and, and_true, and_self, IsInt_lit, IsBool_lit, IsStr_lit, IsSl_lit, cellN_lit, cellL_lit, Bool.not_eq_true', Bool.not_eq_false', Bool.not_true, Bool.not_false, Int.reduceLE, Int.reduceLT, Int.reduceNeg, Nat.le_refl, Int.le_refl, Nat.reduceLT, Nat.reduceLeDiff, Nat.reduceEqDiff, D.v.injEq, D.tup.injEq, D.agg.injEq, D.ro.injEq, List.cons.injEq, Value.int.injEq, Value.bool.injEq, pcond_true, pcond_false, NamelessL, Nameless, Nat.reduceMul, Nat.reduceAdd, Nat.zero_add, Int.toNat_natCast]
  refine ⟨⟨Nat.zero_le _, hz, by omega⟩, ⟨⟨busesD_nl _, linesD_nl _, srcsD_nl _, elsD_nl _, baysD_nl _⟩, rfl⟩, fun r hr => ?_, fun r hr => ?_⟩
  · rw [hr]
    exact ⟨[.nam 0, .old 1, .old 2, .old 3, .dead, .old 5, .old 6], rfl, ⟨⟨⟨rfl, rfl⟩, ⟨trivial, rfl⟩, ⟨trivial, rfl⟩, ⟨trivial, rfl⟩, ⟨trivial, rfl⟩, ⟨trivial, rfl⟩, ⟨trivial, rfl⟩, rfl⟩, ⟨rfl, busesD_nl _⟩, ⟨rfl, linesD_nl _⟩, ⟨rfl, srcsD_nl _⟩, ⟨rfl, mpD_nl _⟩, ⟨rfl, baysD_nl _⟩, rfl⟩, ⟨trivial, rfl⟩⟩
  · rw [hr]
    exact ⟨[.nam 0, .old 1, .old 2, .old 3, .dead, .old 5, .old 6], rfl, ⟨⟨⟨rfl, rfl⟩, ⟨trivial, rfl⟩, ⟨trivial, rfl⟩, ⟨trivial, rfl⟩, ⟨trivial, rfl⟩, ⟨trivial, rfl⟩, ⟨trivial, rfl⟩, rfl⟩, ⟨rfl, busesD_nl _⟩, ⟨rfl, linesD_nl _⟩, ⟨rfl, srcsD_nl _⟩, ⟨rfl, mpD_nl _⟩, ⟨rfl, baysD_nl _⟩, rfl⟩, ⟨trivial, rfl⟩⟩
theorem addBus_keep2 : ∀ (l : List ByteArray) (g : Dg) (f : Bool), (runA buE buS l g f).1.li = g.li
  | [], g, f => rfl
  | x :: r, g, f => by
    simp only [runA]
    cases buE g x == 0
    · rfl
    · rw [cond_true, addBus_keep2 r (buS g x) false]; rfl
theorem addBus_keep3 : ∀ (l : List ByteArray) (g : Dg) (f : Bool), (runA buE buS l g f).1.so = g.so
  | [], g, f => rfl
  | x :: r, g, f => by
    simp only [runA]
    cases buE g x == 0
    · rfl
    · rw [cond_true, addBus_keep3 r (buS g x) false]; rfl
theorem addBus_keep4 : ∀ (l : List ByteArray) (g : Dg) (f : Bool), (runA buE buS l g f).1.ba = g.ba
  | [], g, f => rfl
  | x :: r, g, f => by
    simp only [runA]
    cases buE g x == 0
    · rfl
    · rw [cond_true, addBus_keep4 r (buS g x) false]; rfl
theorem addBus_keepn : ∀ (l : List ByteArray) (g : Dg) (f : Bool), (runA buE buS l g f).1.nm = g.nm
  | [], g, f => rfl
  | x :: r, g, f => by
    simp only [runA]
    cases buE g x == 0
    · rfl
    · rw [cond_true, addBus_keepn r (buS g x) false]; rfl
theorem addLine_keep1 : ∀ (l : List Lin) (g : Dg) (f : Bool), (runA liE liS l g f).1.bu = g.bu
  | [], g, f => rfl
  | x :: r, g, f => by
    simp only [runA]
    cases liE g x == 0
    · rfl
    · rw [cond_true, addLine_keep1 r (liS g x) false]; rfl
theorem addLine_keep3 : ∀ (l : List Lin) (g : Dg) (f : Bool), (runA liE liS l g f).1.so = g.so
  | [], g, f => rfl
  | x :: r, g, f => by
    simp only [runA]
    cases liE g x == 0
    · rfl
    · rw [cond_true, addLine_keep3 r (liS g x) false]; rfl
theorem addLine_keep4 : ∀ (l : List Lin) (g : Dg) (f : Bool), (runA liE liS l g f).1.ba = g.ba
  | [], g, f => rfl
  | x :: r, g, f => by
    simp only [runA]
    cases liE g x == 0
    · rfl
    · rw [cond_true, addLine_keep4 r (liS g x) false]; rfl
theorem addLine_keepn : ∀ (l : List Lin) (g : Dg) (f : Bool), (runA liE liS l g f).1.nm = g.nm
  | [], g, f => rfl
  | x :: r, g, f => by
    simp only [runA]
    cases liE g x == 0
    · rfl
    · rw [cond_true, addLine_keepn r (liS g x) false]; rfl
def entf_addLineAll : EntF := fun ds H => match ds with
  | [.ro n xs, .fn 37 1 [.ptr b 0]] => match d_dgAt H b with
    | some r => some (.v (.int .i64 (runA liE liS (unLin xs) r.g r.f2).2.2), [(b, d_dgm r.g.nm r.b1 r.g.bu.length H.length (runA liE liS (unLin xs) r.g r.f2).1.li.length r.b3 r.g.so.length r.b4 r.g.ba.length r.m), (r.b2, none), (r.m, d_mp (runA liE liS (unLin xs) r.g r.f2).1.es)], [r.b1, r.b3, r.b4], [d_b2 (runA liE liS (unLin xs) r.g r.f2).1.li (runA liE liS (unLin xs) r.g r.f2).2.1],
        r.p ∧ LinOk n xs ∧ (∀ x ∈ (unLin xs), okLin x) ∧ sizes r.g ∧ r.g.li.length + (unLin xs).length ≤ 1000)
    | none => none
  | _ => none
theorem entf_addLineAll_ok : EntFOk Tryd.prog 36 entf_addLineAll := by
  intro ds H d ups rs L p hd hc H1 heq hl; unfold entf_addLineAll at hd; split at hd
  · rename_i n xs b
    split at hd
    · rename_i r hr
      injection hd with hd
      simp only [Prod.mk.injEq] at hd
      obtain ⟨rfl, rfl, rfl, rfl, rfl⟩ := hd
      obtain ⟨hp, ⟨⟨l1, l2⟩, l3⟩, hok, hz, hsum⟩ := hc
      generalize unLin xs = l at *
      subst l1; subst l2
      have heq' : ∀ c ∈ dgσ r b, H1[c]? = H[c]? := fun c hc => heq c (by simp only [dgσ, List.mem_cons, List.map_cons, List.map_nil, List.not_mem_nil, or_false] at hc ⊢; omega)
      obtain ⟨hnd, w0, w1, w2, w3, w4, w5⟩ := dgAt_spec hr hp
      have key := dg_frameA hr hp heq' (ds := [.ro l.length (linesD l), .fn 37 1 [.ptr 0 0]]) (by simp [namesD.namesA, namesD]) (by simp [Nameless]) (addLineAll_call r.g r.f1 r.f2 r.f3 r.f4 l ⟨⟨l3, hok⟩, hz, hsum⟩)
      rw [show rnL (gOf (dgσ r b) H1.length) [.ro l.length (linesD l), .fn 37 1 [.ptr 0 0]] = [.ro l.length (linesD l), .fn 37 1 [.ptr b 0]] by simp only [rnL, rnD, dgσ_0]] at key
      have hfr := frH_dg (H1 := H1) (r := r) (b := b) (d_dg (runA liE liS l r.g r.f2).1 1 6 3 4) (d_b1 (runA liE liS l r.g r.f2).1.bu r.f1) none (d_b3 (runA liE liS l r.g r.f2).1.so r.f3) (d_b4 (runA liE liS l r.g r.f2).1.ba r.f4) (d_mp (runA liE liS l r.g r.f2).1.es) [d_b2 (runA liE liS l r.g r.f2).1.li (runA liE liS l r.g r.f2).2.1]
      rw [show [d_dg (runA liE liS l r.g r.f2).1 1 6 3 4, d_b1 (runA liE liS l r.g r.f2).1.bu r.f1, none, d_b3 (runA liE liS l r.g r.f2).1.so r.f3, d_b4 (runA liE liS l r.g r.f2).1.ba r.f4, d_mp (runA liE liS l r.g r.f2).1.es, d_b2 (runA liE liS l r.g r.f2).1.li (runA liE liS l r.g r.f2).2.1] = [d_dg (runA liE liS l r.g r.f2).1 1 6 3 4, d_b1 (runA liE liS l r.g r.f2).1.bu r.f1, none, d_b3 (runA liE liS l r.g r.f2).1.so r.f3, d_b4 (runA liE liS l r.g r.f2).1.ba r.f4, d_mp (runA liE liS l r.g r.f2).1.es] ++ [d_b2 (runA liE liS l r.g r.f2).1.li (runA liE liS l r.g r.f2).2.1] from rfl, hfr] at key
      obtain ⟨g1, g2, g3, g4, g6⟩ := gO1 r b H1.length
      simp only [List.map_cons, List.map_nil, rn_dg, rn_b1, rn_b2, rn_b3, rn_b4, rn_mp, g1, g2, g3, g4, g6, setU, Option.map_none] at key
      have q1 := (heq' r.b1 (by simp [dgσ])).trans w1
      have q3 := (heq' r.b3 (by simp [dgσ])).trans w3
      have q4 := (heq' r.b4 (by simp [dgσ])).trans w4
      have k1 : (runA liE liS l r.g r.f2).1.bu = r.g.bu := addLine_keep1 l r.g r.f2
      have k3 : (runA liE liS l r.g r.f2).1.so = r.g.so := addLine_keep3 l r.g r.f2
      have k4 : (runA liE liS l r.g r.f2).1.ba = r.g.ba := addLine_keep4 l r.g r.f2
      have kn : (runA liE liS l r.g r.f2).1.nm = r.g.nm := addLine_keepn l r.g r.f2
      simp only [dgσ, List.nodup_cons, List.mem_cons, not_or, List.not_mem_nil, not_false_eq_true, and_true] at hnd
      rw [hl, k1, k3, k4, kn] at key
      rw [set_same (b := r.b1) (by rw [List.getElem?_set_ne (by omega)]; exact q1), set_same (b := r.b3) (by rw [List.getElem?_set_ne (by omega), List.getElem?_set_ne (by omega)]; exact q3), set_same (b := r.b4) (by rw [List.getElem?_set_ne (by omega), List.getElem?_set_ne (by omega)]; exact q4)] at key
      exact key
    · cases hd
  · cases hd
theorem addSource_keep1 : ∀ (l : List Src) (g : Dg) (f : Bool), (runA soE soS l g f).1.bu = g.bu
  | [], g, f => rfl
  | x :: r, g, f => by
    simp only [runA]
    cases soE g x == 0
    · rfl
    · rw [cond_true, addSource_keep1 r (soS g x) false]; rfl
theorem addSource_keep2 : ∀ (l : List Src) (g : Dg) (f : Bool), (runA soE soS l g f).1.li = g.li
  | [], g, f => rfl
  | x :: r, g, f => by
    simp only [runA]
    cases soE g x == 0
    · rfl
    · rw [cond_true, addSource_keep2 r (soS g x) false]; rfl
theorem addSource_keep4 : ∀ (l : List Src) (g : Dg) (f : Bool), (runA soE soS l g f).1.ba = g.ba
  | [], g, f => rfl
  | x :: r, g, f => by
    simp only [runA]
    cases soE g x == 0
    · rfl
    · rw [cond_true, addSource_keep4 r (soS g x) false]; rfl
theorem addSource_keepn : ∀ (l : List Src) (g : Dg) (f : Bool), (runA soE soS l g f).1.nm = g.nm
  | [], g, f => rfl
  | x :: r, g, f => by
    simp only [runA]
    cases soE g x == 0
    · rfl
    · rw [cond_true, addSource_keepn r (soS g x) false]; rfl
def entf_addSourceAll : EntF := fun ds H => match ds with
  | [.ro n xs, .fn 39 1 [.ptr b 0]] => match d_dgAt H b with
    | some r => some (.v (.int .i64 (runA soE soS (unSrc xs) r.g r.f3).2.2), [(b, d_dgm r.g.nm r.b1 r.g.bu.length r.b2 r.g.li.length H.length (runA soE soS (unSrc xs) r.g r.f3).1.so.length r.b4 r.g.ba.length r.m), (r.b3, none), (r.m, d_mp (runA soE soS (unSrc xs) r.g r.f3).1.es)], [r.b1, r.b2, r.b4], [d_b3 (runA soE soS (unSrc xs) r.g r.f3).1.so (runA soE soS (unSrc xs) r.g r.f3).2.1],
        r.p ∧ SrcOk n xs ∧ (∀ x ∈ (unSrc xs), okSrc x) ∧ sizes r.g ∧ r.g.so.length + (unSrc xs).length ≤ 1000)
    | none => none
  | _ => none
theorem entf_addSourceAll_ok : EntFOk Tryd.prog 38 entf_addSourceAll := by
  intro ds H d ups rs L p hd hc H1 heq hl; unfold entf_addSourceAll at hd; split at hd
  · rename_i n xs b
    split at hd
    · rename_i r hr
      injection hd with hd
      simp only [Prod.mk.injEq] at hd
      obtain ⟨rfl, rfl, rfl, rfl, rfl⟩ := hd
      obtain ⟨hp, ⟨⟨l1, l2⟩, l3⟩, hok, hz, hsum⟩ := hc
      generalize unSrc xs = l at *
      subst l1; subst l2
      have heq' : ∀ c ∈ dgσ r b, H1[c]? = H[c]? := fun c hc => heq c (by simp only [dgσ, List.mem_cons, List.map_cons, List.map_nil, List.not_mem_nil, or_false] at hc ⊢; omega)
      obtain ⟨hnd, w0, w1, w2, w3, w4, w5⟩ := dgAt_spec hr hp
      have key := dg_frameA hr hp heq' (ds := [.ro l.length (srcsD l), .fn 39 1 [.ptr 0 0]]) (by simp [namesD.namesA, namesD]) (by simp [Nameless]) (addSourceAll_call r.g r.f1 r.f2 r.f3 r.f4 l ⟨⟨l3, hok⟩, hz, hsum⟩)
      rw [show rnL (gOf (dgσ r b) H1.length) [.ro l.length (srcsD l), .fn 39 1 [.ptr 0 0]] = [.ro l.length (srcsD l), .fn 39 1 [.ptr b 0]] by simp only [rnL, rnD, dgσ_0]] at key
      have hfr := frH_dg (H1 := H1) (r := r) (b := b) (d_dg (runA soE soS l r.g r.f3).1 1 2 6 4) (d_b1 (runA soE soS l r.g r.f3).1.bu r.f1) (d_b2 (runA soE soS l r.g r.f3).1.li r.f2) none (d_b4 (runA soE soS l r.g r.f3).1.ba r.f4) (d_mp (runA soE soS l r.g r.f3).1.es) [d_b3 (runA soE soS l r.g r.f3).1.so (runA soE soS l r.g r.f3).2.1]
      rw [show [d_dg (runA soE soS l r.g r.f3).1 1 2 6 4, d_b1 (runA soE soS l r.g r.f3).1.bu r.f1, d_b2 (runA soE soS l r.g r.f3).1.li r.f2, none, d_b4 (runA soE soS l r.g r.f3).1.ba r.f4, d_mp (runA soE soS l r.g r.f3).1.es, d_b3 (runA soE soS l r.g r.f3).1.so (runA soE soS l r.g r.f3).2.1] = [d_dg (runA soE soS l r.g r.f3).1 1 2 6 4, d_b1 (runA soE soS l r.g r.f3).1.bu r.f1, d_b2 (runA soE soS l r.g r.f3).1.li r.f2, none, d_b4 (runA soE soS l r.g r.f3).1.ba r.f4, d_mp (runA soE soS l r.g r.f3).1.es] ++ [d_b3 (runA soE soS l r.g r.f3).1.so (runA soE soS l r.g r.f3).2.1] from rfl, hfr] at key
      obtain ⟨g1, g2, g3, g4, g6⟩ := gO1 r b H1.length
      simp only [List.map_cons, List.map_nil, rn_dg, rn_b1, rn_b2, rn_b3, rn_b4, rn_mp, g1, g2, g3, g4, g6, setU, Option.map_none] at key
      have q1 := (heq' r.b1 (by simp [dgσ])).trans w1
      have q2 := (heq' r.b2 (by simp [dgσ])).trans w2
      have q4 := (heq' r.b4 (by simp [dgσ])).trans w4
      have k1 : (runA soE soS l r.g r.f3).1.bu = r.g.bu := addSource_keep1 l r.g r.f3
      have k2 : (runA soE soS l r.g r.f3).1.li = r.g.li := addSource_keep2 l r.g r.f3
      have k4 : (runA soE soS l r.g r.f3).1.ba = r.g.ba := addSource_keep4 l r.g r.f3
      have kn : (runA soE soS l r.g r.f3).1.nm = r.g.nm := addSource_keepn l r.g r.f3
      simp only [dgσ, List.nodup_cons, List.mem_cons, not_or, List.not_mem_nil, not_false_eq_true, and_true] at hnd
      rw [hl, k1, k2, k4, kn] at key
      rw [set_same (b := r.b1) (by rw [List.getElem?_set_ne (by omega)]; exact q1), set_same (b := r.b2) (by rw [List.getElem?_set_ne (by omega)]; exact q2), set_same (b := r.b4) (by rw [List.getElem?_set_ne (by omega), List.getElem?_set_ne (by omega)]; exact q4)] at key
      exact key
    · cases hd
  · cases hd
theorem addBay_keep1 : ∀ (l : List Bay) (g : Dg) (f : Bool), (runA baE baS l g f).1.bu = g.bu
  | [], g, f => rfl
  | x :: r, g, f => by
    simp only [runA]
    cases baE g x == 0
    · rfl
    · rw [cond_true, addBay_keep1 r (baS g x) false]; rfl
theorem addBay_keep2 : ∀ (l : List Bay) (g : Dg) (f : Bool), (runA baE baS l g f).1.li = g.li
  | [], g, f => rfl
  | x :: r, g, f => by
    simp only [runA]
    cases baE g x == 0
    · rfl
    · rw [cond_true, addBay_keep2 r (baS g x) false]; rfl
theorem addBay_keep3 : ∀ (l : List Bay) (g : Dg) (f : Bool), (runA baE baS l g f).1.so = g.so
  | [], g, f => rfl
  | x :: r, g, f => by
    simp only [runA]
    cases baE g x == 0
    · rfl
    · rw [cond_true, addBay_keep3 r (baS g x) false]; rfl
theorem addBay_keepn : ∀ (l : List Bay) (g : Dg) (f : Bool), (runA baE baS l g f).1.nm = g.nm
  | [], g, f => rfl
  | x :: r, g, f => by
    simp only [runA]
    cases baE g x == 0
    · rfl
    · rw [cond_true, addBay_keepn r (baS g x) false]; rfl
def entf_addBayAll : EntF := fun ds H => match ds with
  | [.ro n xs, .fn 41 1 [.ptr b 0]] => match d_dgAt H b with
    | some r => some (.v (.int .i64 (runA baE baS (unBay xs) r.g r.f4).2.2), [(b, d_dgm r.g.nm r.b1 r.g.bu.length r.b2 r.g.li.length r.b3 r.g.so.length H.length (runA baE baS (unBay xs) r.g r.f4).1.ba.length r.m), (r.b4, none), (r.m, d_mp (runA baE baS (unBay xs) r.g r.f4).1.es)], [r.b1, r.b2, r.b3], [d_b4 (runA baE baS (unBay xs) r.g r.f4).1.ba (runA baE baS (unBay xs) r.g r.f4).2.1],
        r.p ∧ BayOk n xs ∧ (∀ x ∈ (unBay xs), okBay x) ∧ sizes r.g ∧ r.g.ba.length + (unBay xs).length ≤ 1000)
    | none => none
  | _ => none
theorem entf_addBayAll_ok : EntFOk Tryd.prog 40 entf_addBayAll := by
  intro ds H d ups rs L p hd hc H1 heq hl; unfold entf_addBayAll at hd; split at hd
  · rename_i n xs b
    split at hd
    · rename_i r hr
      injection hd with hd
      simp only [Prod.mk.injEq] at hd
      obtain ⟨rfl, rfl, rfl, rfl, rfl⟩ := hd
      obtain ⟨hp, ⟨⟨l1, l2⟩, l3⟩, hok, hz, hsum⟩ := hc
      generalize unBay xs = l at *
      subst l1; subst l2
      have heq' : ∀ c ∈ dgσ r b, H1[c]? = H[c]? := fun c hc => heq c (by simp only [dgσ, List.mem_cons, List.map_cons, List.map_nil, List.not_mem_nil, or_false] at hc ⊢; omega)
      obtain ⟨hnd, w0, w1, w2, w3, w4, w5⟩ := dgAt_spec hr hp
      have key := dg_frameA hr hp heq' (ds := [.ro l.length (baysD l), .fn 41 1 [.ptr 0 0]]) (by simp [namesD.namesA, namesD]) (by simp [Nameless]) (addBayAll_call r.g r.f1 r.f2 r.f3 r.f4 l ⟨⟨l3, hok⟩, hz, hsum⟩)
      rw [show rnL (gOf (dgσ r b) H1.length) [.ro l.length (baysD l), .fn 41 1 [.ptr 0 0]] = [.ro l.length (baysD l), .fn 41 1 [.ptr b 0]] by simp only [rnL, rnD, dgσ_0]] at key
      have hfr := frH_dg (H1 := H1) (r := r) (b := b) (d_dg (runA baE baS l r.g r.f4).1 1 2 3 6) (d_b1 (runA baE baS l r.g r.f4).1.bu r.f1) (d_b2 (runA baE baS l r.g r.f4).1.li r.f2) (d_b3 (runA baE baS l r.g r.f4).1.so r.f3) none (d_mp (runA baE baS l r.g r.f4).1.es) [d_b4 (runA baE baS l r.g r.f4).1.ba (runA baE baS l r.g r.f4).2.1]
      rw [show [d_dg (runA baE baS l r.g r.f4).1 1 2 3 6, d_b1 (runA baE baS l r.g r.f4).1.bu r.f1, d_b2 (runA baE baS l r.g r.f4).1.li r.f2, d_b3 (runA baE baS l r.g r.f4).1.so r.f3, none, d_mp (runA baE baS l r.g r.f4).1.es, d_b4 (runA baE baS l r.g r.f4).1.ba (runA baE baS l r.g r.f4).2.1] = [d_dg (runA baE baS l r.g r.f4).1 1 2 3 6, d_b1 (runA baE baS l r.g r.f4).1.bu r.f1, d_b2 (runA baE baS l r.g r.f4).1.li r.f2, d_b3 (runA baE baS l r.g r.f4).1.so r.f3, none, d_mp (runA baE baS l r.g r.f4).1.es] ++ [d_b4 (runA baE baS l r.g r.f4).1.ba (runA baE baS l r.g r.f4).2.1] from rfl, hfr] at key
      obtain ⟨g1, g2, g3, g4, g6⟩ := gO1 r b H1.length
      simp only [List.map_cons, List.map_nil, rn_dg, rn_b1, rn_b2, rn_b3, rn_b4, rn_mp, g1, g2, g3, g4, g6, setU, Option.map_none] at key
      have q1 := (heq' r.b1 (by simp [dgσ])).trans w1
      have q2 := (heq' r.b2 (by simp [dgσ])).trans w2
      have q3 := (heq' r.b3 (by simp [dgσ])).trans w3
      have k1 : (runA baE baS l r.g r.f4).1.bu = r.g.bu := addBay_keep1 l r.g r.f4
      have k2 : (runA baE baS l r.g r.f4).1.li = r.g.li := addBay_keep2 l r.g r.f4
      have k3 : (runA baE baS l r.g r.f4).1.so = r.g.so := addBay_keep3 l r.g r.f4
      have kn : (runA baE baS l r.g r.f4).1.nm = r.g.nm := addBay_keepn l r.g r.f4
      simp only [dgσ, List.nodup_cons, List.mem_cons, not_or, List.not_mem_nil, not_false_eq_true, and_true] at hnd
      rw [hl, k1, k2, k3, kn] at key
      rw [set_same (b := r.b1) (by rw [List.getElem?_set_ne (by omega)]; exact q1), set_same (b := r.b2) (by rw [List.getElem?_set_ne (by omega)]; exact q2), set_same (b := r.b3) (by rw [List.getElem?_set_ne (by omega)]; exact q3)] at key
      exact key
    · cases hd
  · cases hd
end Go.Proofs.YtfleadelfklenaaDoor
end
section
namespace Go.Proofs.YtfleadelfklenaaDoor
open Go.VD
set_option linter.unusedVariables false
set_option linter.unusedSimpArgs false
set_option maxRecDepth 100000
theorem callJ_viewK {P : Program} {f : FuncId} {ds : List D} {H H2 H' : Heap} {d : D} {keep : List KE} (h : CallJ P f ds H2 d H') (hn : (firstK keep H.length && nodupB (kO keep)) = true) (hh : viewHeapK keep H keep H2) (hds : (namesD.namesA ds).all (samB (kO keep)) = true) : CallJ P f ds H d H' := by
  simp only [Bool.and_eq_true] at hn
  obtain ⟨hf, hn⟩ := hn
  refine ⟨h.1, fun ρ S w vals hS hv => ?_⟩
  have hl2 := (viewHeapK_get _ _ hh).1
  have hl3 : H2.length = (kO keep).length := by rw [hl2]; simp [kO]
  have hlk := viewK_lek (k := H.length) hS hf hh
  refine (h.2 _ _ w vals (viewK_st (k := H.length) hS hf hn hh) (samT_rd hl3 (reρK_kO hf) ds vals (samB_ok hds) hv)).mono fun e w' ⟨v, ρ', S', he, hS', hle, hr⟩ => ⟨v, ρ', S', he, hS', ?_, hr⟩
  have ht := hlk.m.trans hle.lem
  have hN : H.length ≤ H2.length := by rw [hl2]; exact firstK_len hf
  exact ⟨Nat.le_trans hN hle.N, fun b hb => (hle.ρ b (Nat.lt_of_lt_of_le hb hN)).trans (hlk.ρ b hb), ht.S, ht.keep, ht.new, ht.fix, ht.heap, ht.size, ht.os, ht.tape, ht.output⟩
def d_dgn (nm : ByteArray) (m : Nat) : Option Blk := some ⟨68, [.v (.string nm), .v (.slice none 0 0), .v (.slice none 0 0), .v (.slice none 0 0), .v (.slice none 0 0), .ifc itTy (.ptr m 0)], true⟩
def g00 (nm : ByteArray) (es : List El) : Dg := ⟨nm, [], [], [], [], es⟩
theorem addBusAll_nil (nm : ByteArray) (es : List El) (l : List ByteArray) (hl : l.length ≤ 1000) (hok : ∀ x ∈ l, x.size ≤ maxLen) :
    CallJ Tryd.prog 34 [.ro l.length (busesD l), .fn 35 1 [.ptr 0 0]] [d_dgn nm 1, d_mp es] (.v (.int .i64 (runA buE buS l (g00 nm es) false).2.2))
      [d_dgm nm 6 (runA buE buS l (g00 nm es) false).1.bu.length 3 0 4 0 5 0 1, d_mp (runA buE buS l (g00 nm es) false).1.es, none, d_b2 [] false, d_b3 [] false, d_b4 [] false, d_b1 (runA buE buS l (g00 nm es) false).1.bu (runA buE buS l (g00 nm es) false).2.1] := by
  let B : Heap := [d_dgm nm 2 0 3 0 4 0 5 0 1, d_mp es, d_b1 [] false, d_b2 [] false, d_b3 [] false, d_b4 [] false]
  have hr : ∃ p, p ∧ d_dgAt B 0 = some ⟨g00 nm (unEls (elsD es)), 2, 3, 4, 5, 1, false, false, false, false, p⟩ := by
    refine ⟨_, ?_, rfl⟩
    refine ⟨⟨⟨⟨rfl, rfl, rfl⟩, rfl, rfl, rfl, rfl⟩, rfl⟩, ⟨rfl, rfl⟩, ⟨rfl, rfl⟩, ⟨rfl, rfl⟩, ⟨rfl, rfl⟩, ?_⟩
    exact of_eq_true (EkOk_lit es)
  rw [unEls_D] at hr
  obtain ⟨p, hp, hB⟩ := hr
  have key := dg_frameA (H1 := B) hB hp (fun _ _ => rfl) (ds := [.ro l.length (busesD l), .fn 35 1 [.ptr 0 0]]) (by simp [namesD.namesA, namesD]) (by simp [Nameless])
    (addBusAll_call (g00 nm es) false false false false l ⟨⟨by simp only [maxLen]; omega, hok⟩, ⟨Nat.zero_le _, Nat.zero_le _, Nat.zero_le _, Nat.zero_le _⟩, by simp only [g00, List.length_nil]; omega⟩)
  have k2 : (runA buE buS l (g00 nm es) false).1.li = [] := addBus_keep2 l (g00 nm es) false
  have k3 : (runA buE buS l (g00 nm es) false).1.so = [] := addBus_keep3 l (g00 nm es) false
  have k4 : (runA buE buS l (g00 nm es) false).1.ba = [] := addBus_keep4 l (g00 nm es) false
  have kn : (runA buE buS l (g00 nm es) false).1.nm = nm := addBus_keepn l (g00 nm es) false
  generalize runA buE buS l (g00 nm es) false = R at *
  rw [show [d_dg R.1 6 2 3 4, none, d_b2 R.1.li false, d_b3 R.1.so false, d_b4 R.1.ba false, d_mp R.1.es, d_b1 R.1.bu R.2.1] = [d_dg R.1 6 2 3 4, none, d_b2 R.1.li false, d_b3 R.1.so false, d_b4 R.1.ba false, d_mp R.1.es] ++ [d_b1 R.1.bu R.2.1] from rfl, frH_dg] at key
  simp only [rnL, rnD, dgσ_0] at key
  simp only [List.map_cons, List.map_nil, rn_dg, rn_b1, rn_b2, rn_b3, rn_b4, rn_mp, gO1, setU, Option.map_none, k2, k3, k4, kn, B, List.length_cons, List.length_nil, List.set_cons_zero, List.set_cons_succ, List.cons_append, List.nil_append] at key
  refine callJ_viewK (keep := [.nam 0, .old 1, .new, .new, .new, .new]) key rfl ?_ rfl
  exact ⟨⟨⟨rfl, rfl⟩, ⟨trivial, rfl⟩, trivial, trivial, trivial, trivial, ⟨trivial, rfl⟩, rfl⟩, ⟨rfl, mpD_nl es⟩, rfl, rfl, rfl, rfl, rfl⟩
def d_g0 (m : Nat) : D := .agg [.v (.string ⟨#[]⟩), .v (.slice none 0 0), .v (.slice none 0 0), .v (.slice none 0 0), .v (.slice none 0 0), .ifc itTy (.ptr m 0)]
theorem newDg_call (u : Unit) : CallJ Tryd.prog 24 [] ([]) (d_g0 0) ([d_mp []]) := by
  refine callJ_of_vck (k := 0) (call := noCalls) (lp := fun _ => none) (N := 10) T_ok mixed noCalls_ok Tryd.func24 rfl (by decide) (by kernel_rfl) (by kernel_rfl) rfl (LpAllK.none _) ?_
  refine of_eq (B := letI z0 := (D.v (Value.slice (Option.none) (0 : Nat) (0 : Nat))); letI z1 := (D.v (Value.string ByteArray.empty)); letI z2 := (D.ifc (1000000007 : Nat) (D.ptr (1 : Nat) (0 : Nat))); letI z3 := ((6 : Nat) ≤ (6 : Nat)); (True ∧ (True ∧ (True ∧ ((((6 : Nat) = (6 : Nat)) ∧ z3) ∧ ((z3 ∧ True) ∧ (∃ (kp : (List KE)), (viewFin (0 : Nat) kp [(Option.some (Blk.mk (68 : Nat) [z1, z0, z0, z0, z0, z2] Bool.true)), (Option.some (Blk.mk (1000000007 : Nat) [(D.v (Value.map (Option.none))), (D.v (Value.bool Bool.false)), (D.v (Value.bool Bool.true)), (D.v (Value.int IntKind.i64 (1 : Int))), (D.v (Value.int IntKind.i64 (2 : Int))), z1] Bool.true))] (D.agg [z1, z0, z0, z0, z0, z2]) (d_g0 (0 : Nat)) [(d_mp ([] : List El))])))))))) (by kernel_rfl) ?_
  simp only [true_and, and_true, and_self, IsInt_lit, IsBool_lit, IsStr_lit, IsSl_lit, cellN_lit, cellL_lit, Bool.not_eq_true', Bool.not_eq_false', Bool.not_true, Bool.not_false, Int.reduceLE, Int.reduceLT, Int.reduceNeg, Nat.le_refl, Int.le_refl, Nat.reduceLT, Nat.reduceLeDiff, Nat.reduceEqDiff, D.v.injEq, D.tup.injEq, D.agg.injEq, D.ro.injEq, List.cons.injEq, Value.int.injEq, Value.bool.injEq, pcond_true, pcond_false, NamelessL, Nameless, Nat.reduceMul, Nat.reduceAdd, Nat.zero_add, Int.toNat_natCast]
  exact ⟨[.old 1], rfl, ⟨⟨rfl, mpD_nl []⟩, rfl⟩, ⟨⟨trivial, trivial, trivial, trivial, trivial, trivial, trivial⟩, rfl⟩⟩
def entf_newDg : EntF := fun ds H => match ds with
  | [] => some (d_g0 H.length, [], [], [d_mp []], True)
  | _ => none
theorem entf_newDg_ok : EntFOk Tryd.prog 24 entf_newDg := by
  intro ds H d ups rs L p hd hc H1 heq hl; unfold entf_newDg at hd; split at hd
  · injection hd with hd
    simp only [Prod.mk.injEq] at hd
    obtain ⟨rfl, rfl, rfl, rfl, rfl⟩ := hd
    have key := (newDg_call ()).frames (σ := []) (B := H1) rfl List.nodup_nil (by simp) (fun i blk h => by simp at h) (by simp [namesD.namesA])
    have e : rnD (gOf [] H1.length) (d_g0 0) = d_g0 H.length := by simp only [d_g0, rnD, rnL, gOf, List.length_nil, Nat.not_lt_zero, if_false, Nat.sub_zero, Nat.add_zero, hl]
    rw [e] at key
    simp only [frH, setAt, List.length_nil, List.drop_zero, List.map_cons, List.map_nil, rn_mp, rnL] at key
    exact key
  · cases hd
def entf_addBusAll0 : EntF := fun ds H => match ds with
  | [.ro n xs, .fn 35 1 [.ptr b 0]] => match blkAt H b with
    | some ⟨ty, [.v (.string nm), .v (.slice none 0 0), .v (.slice none 0 0), .v (.slice none 0 0), .v (.slice none 0 0), .ifc t (.ptr m 0)], true⟩ => match blkRaw H m with
      | some ⟨tm, cm, true⟩ => some (.v (.int .i64 (runA buE buS (unBus xs) (g00 nm (unEls (cm.drop 6))) false).2.2),
          [(b, d_dgm nm (H.length + 4) (runA buE buS (unBus xs) (g00 nm (unEls (cm.drop 6))) false).1.bu.length (H.length + 1) 0 (H.length + 2) 0 (H.length + 3) 0 m), (m, d_mp (runA buE buS (unBus xs) (g00 nm (unEls (cm.drop 6))) false).1.es)], [],
          [none, d_b2 [] false, d_b3 [] false, d_b4 [] false, d_b1 (runA buE buS (unBus xs) (g00 nm (unEls (cm.drop 6))) false).1.bu (runA buE buS (unBus xs) (g00 nm (unEls (cm.drop 6))) false).2.1],
          ((ty = 68 ∧ t = itTy ∧ tm = itTy) ∧ d_ndB [b, m] = true ∧ EkOk cm) ∧ BusOk n xs ∧ (∀ x ∈ unBus xs, x.size ≤ maxLen) ∧ (unBus xs).length ≤ 1000)
      | _ => none
    | _ => none
  | _ => none
theorem entf_addBusAll0_ok : EntFOk Tryd.prog 34 entf_addBusAll0 := by
  intro ds H d ups rs L p hd hc H1 heq hl; unfold entf_addBusAll0 at hd; split at hd
  · rename_i n xs b
    split at hd
    · rename_i ty nm t m hb
      split at hd
      · rename_i tm cm hm
        injection hd with hd
        simp only [Prod.mk.injEq] at hd
        obtain ⟨rfl, rfl, rfl, rfl, rfl⟩ := hd
        obtain ⟨⟨⟨rfl, rfl, rfl⟩, hn, he⟩, ⟨⟨l1, l2⟩, l3⟩, hok, hsz⟩ := hc
        generalize unBus xs = l at *
        subst l1; subst l2
        have he : cm = mpD (unEls (cm.drop 6)) := he
        generalize unEls (cm.drop 6) = es at *
        subst he
        have hb := blkAt_some hb
        have hm := blkRaw_some hm
        rw [← heq b (.inr (by simp))] at hb
        rw [← heq m (.inr (by simp))] at hm
        have hlb := (List.getElem?_eq_some_iff.1 hb).1
        have hlm := (List.getElem?_eq_some_iff.1 hm).1
        have g0 : gOf [b, m] H1.length 0 = b := by simp [gOf]
        have g1 : gOf [b, m] H1.length 1 = m := by simp [gOf]
        have g3 : gOf [b, m] H1.length 3 = H.length + 1 := by simp [gOf, hl]
        have g4 : gOf [b, m] H1.length 4 = H.length + 2 := by simp [gOf, hl]
        have g5 : gOf [b, m] H1.length 5 = H.length + 3 := by simp [gOf, hl]
        have g6 : gOf [b, m] H1.length 6 = H.length + 4 := by simp [gOf, hl]
        have key := (addBusAll_nil nm es l hsz hok).frames (σ := [b, m]) (B := H1) rfl (ndB_ok hn) (by simp [hlb, hlm]) (fun i blk hi => by
          match i, hi with
          | 0, hi =>
            simp only [d_dgn, List.getElem?_cons_zero, Option.some.injEq] at hi; subst hi
            refine ⟨b, rfl, ?_, ?_⟩
            · rw [hb]; simp only [rnB, rnL, rnD, g1]
            · simp [namesD.namesA, namesD]
          | 1, hi =>
            rw [show d_mp es = some ⟨itTy, mpD es, true⟩ from rfl] at hi
            simp only [List.getElem?_cons_succ, List.getElem?_cons_zero, Option.some.injEq] at hi; subst hi
            exact ⟨m, rfl, by rw [hm]; simp only [rnB, rnL_nl _ _ (mpD_nl _)], by rw [namesL_nl _ (mpD_nl _)]; simp⟩
          | i + 2, hi => simp at hi) (by simp [namesD.namesA, namesD])
        generalize runA buE buS l (g00 nm es) false = R at *
        have ed : ∀ k : Nat, (d_dgm nm 6 k 3 0 4 0 5 0 1).map (rnB (gOf [b, m] H1.length)) = d_dgm nm (H.length + 4) k (H.length + 1) 0 (H.length + 2) 0 (H.length + 3) 0 m := fun k => by
          simp only [d_dgm, Option.map_some, rnB, rnL, rnD, g1, g3, g4, g5, g6]
        simp only [frH, setAt, List.map_cons, List.map_nil, List.length_cons, List.length_nil, List.drop_succ_cons, List.drop_zero, ed, rn_mp, rn_b1, rn_b2, rn_b3, rn_b4, Option.map_none, rnL, rnD, g0] at key
        exact key
      · cases hd
    · cases hd
  · cases hd
end Go.Proofs.YtfleadelfklenaaDoor
end
section
namespace Go.Proofs.YtfleadelfklenaaDoor
open Go.VD
set_option linter.unusedVariables false
set_option linter.unusedSimpArgs false
set_option maxRecDepth 100000
def k1S (s : Stn) : Dg × Bool × Int := runA buE buS s.bu (g00 ⟨#[]⟩ []) false
def k2S (s : Stn) : Dg × Bool × Int := runA liE liS s.li (k1S s).1 false
def k3S (s : Stn) : Dg × Bool × Int := runA soE soS s.so (k2S s).1 false
def k4S (s : Stn) : Dg × Bool × Int := runA baE baS s.ba (k3S s).1 false
def elsP (s : Stn) : Int := orE (k1S s).2.2 (orE (k2S s).2.2 (orE (k3S s).2.2 (k4S s).2.2))
def chkP (s : Stn) : Int := bif nameS s.n then (bif cntS s then elsP s else 3) else 7
theorem mk_of {n : ByteArray} {b : List ByteArray} {l : List Lin} {o : List Src} {y : List Bay} (g : Dg) (h0 : g.nm = n) (h1 : g.bu = b) (h2 : g.li = l) (h3 : g.so = o) (h4 : g.ba = y) : Dg.mk n b l o y g.es = g := by
  subst h0; subst h1; subst h2; subst h3; subst h4; rfl
theorem k1_def (s : Stn) : runA buE buS s.bu (g00 ⟨⟨[]⟩⟩ []) false = k1S s := rfl
theorem k2_def (s : Stn) : runA liE liS s.li (k1S s).1 false = k2S s := rfl
theorem k3_def (s : Stn) : runA soE soS s.so (k2S s).1 false = k3S s := rfl
theorem k4_def (s : Stn) : runA baE baS s.ba (k3S s).1 false = k4S s := rfl
theorem k1_nm (s : Stn) : (k1S s).1.nm = ⟨⟨[]⟩⟩ := addBus_keepn _ _ _
theorem k1_li (s : Stn) : (k1S s).1.li = [] := addBus_keep2 _ _ _
theorem k1_so (s : Stn) : (k1S s).1.so = [] := addBus_keep3 _ _ _
theorem k1_ba (s : Stn) : (k1S s).1.ba = [] := addBus_keep4 _ _ _
theorem k2_nm (s : Stn) : (k2S s).1.nm = ⟨⟨[]⟩⟩ := (addLine_keepn _ _ _).trans (k1_nm s)
theorem k2_bu (s : Stn) : (k2S s).1.bu = (k1S s).1.bu := addLine_keep1 _ _ _
theorem k2_so (s : Stn) : (k2S s).1.so = [] := (addLine_keep3 _ _ _).trans (k1_so s)
theorem k2_ba (s : Stn) : (k2S s).1.ba = [] := (addLine_keep4 _ _ _).trans (k1_ba s)
theorem k3_nm (s : Stn) : (k3S s).1.nm = ⟨⟨[]⟩⟩ := (addSource_keepn _ _ _).trans (k2_nm s)
theorem k3_bu (s : Stn) : (k3S s).1.bu = (k1S s).1.bu := (addSource_keep1 _ _ _).trans (k2_bu s)
theorem k3_li (s : Stn) : (k3S s).1.li = (k2S s).1.li := addSource_keep2 _ _ _
theorem k3_ba (s : Stn) : (k3S s).1.ba = [] := (addSource_keep4 _ _ _).trans (k2_ba s)
theorem k1_eta (s : Stn) : Dg.mk ⟨⟨[]⟩⟩ (k1S s).1.bu [] [] [] (k1S s).1.es = (k1S s).1 := mk_of _ (k1_nm s) rfl (k1_li s) (k1_so s) (k1_ba s)
theorem k2_eta (s : Stn) : Dg.mk ⟨⟨[]⟩⟩ (k1S s).1.bu (k2S s).1.li [] [] (k2S s).1.es = (k2S s).1 := mk_of _ (k2_nm s) (k2_bu s) rfl (k2_so s) (k2_ba s)
theorem k3_eta (s : Stn) : Dg.mk ⟨⟨[]⟩⟩ (k1S s).1.bu (k2S s).1.li (k3S s).1.so [] (k3S s).1.es = (k3S s).1 := mk_of _ (k3_nm s) (k3_bu s) (k3_li s) rfl (k3_ba s)
theorem bu_len : ∀ (l : List ByteArray) (g : Dg) (f : Bool), (runA buE buS l g f).1.bu.length ≤ g.bu.length + l.length
  | [], g, f => Nat.le_refl _
  | x :: r, g, f => by
    have h : (buS g x).bu.length ≤ g.bu.length + 1 := by
      show (bif buE g x == 0 then g.bu ++ [x] else g.bu).length ≤ _
      cases buE g x == 0 <;> simp
    simp only [runA, List.length_cons]
    cases buE g x == 0
    · rw [cond_false]; simp only; omega
    · rw [cond_true]; have := bu_len r (buS g x) false; omega
theorem li_len : ∀ (l : List Lin) (g : Dg) (f : Bool), (runA liE liS l g f).1.li.length ≤ g.li.length + l.length
  | [], g, f => Nat.le_refl _
  | x :: r, g, f => by
    have h : (liS g x).li.length ≤ g.li.length + 1 := by
      show (bif liE g x == 0 then g.li ++ [x] else g.li).length ≤ _
      cases liE g x == 0 <;> simp
    simp only [runA, List.length_cons]
    cases liE g x == 0
    · rw [cond_false]; simp only; omega
    · rw [cond_true]; have := li_len r (liS g x) false; omega
theorem so_len : ∀ (l : List Src) (g : Dg) (f : Bool), (runA soE soS l g f).1.so.length ≤ g.so.length + l.length
  | [], g, f => Nat.le_refl _
  | x :: r, g, f => by
    have h : (soS g x).so.length ≤ g.so.length + 1 := by
      show (bif soE g x == 0 then g.so ++ [x] else g.so).length ≤ _
      cases soE g x == 0 <;> simp
    simp only [runA, List.length_cons]
    cases soE g x == 0
    · rw [cond_false]; simp only; omega
    · rw [cond_true]; have := so_len r (soS g x) false; omega
theorem k_sizes (s : Stn) (h : cntS s = true) : sizes (k1S s).1 ∧ sizes (k2S s).1 ∧ sizes (k3S s).1 := by
  obtain ⟨f1, f2, f3, f4⟩ := cntS_few h
  have l1 : (k1S s).1.bu.length ≤ 0 + s.bu.length := bu_len _ _ _
  have l2 : (k2S s).1.li.length ≤ (k1S s).1.li.length + s.li.length := li_len _ _ _
  have l3 : (k3S s).1.so.length ≤ (k2S s).1.so.length + s.so.length := so_len _ _ _
  rw [k1_li, List.length_nil] at l2
  rw [k2_so, List.length_nil] at l3
  unfold sizes
  rw [k1_li, k1_so, k1_ba, k2_bu, k2_so, k2_ba, k3_bu, k3_li, k3_ba]
  simp only [List.length_nil]
  omega
theorem pcheck_pure (s : Stn) (hpre : okStn s) : PureJ Tryd.prog 14 [.agg (d_stnL s)] (.v (.int .i64 (chkP s))) := by
  refine pureJ_of_vcx (call := (addPure 32 ent_name (addF 24 (entf_newDg) (addF 34 (entf_addBusAll0) (addF 36 (entf_addLineAll) (addF 38 (entf_addSourceAll) (addF 40 (entf_addBayAll) (addPure 33 ent_por noCalls)))))))) (lp := fun _ => none) (N := 10) T_ok mixed (addPure_ok ent_name_ok (addF_ok (entf_newDg_ok) (addF_ok (entf_addBusAll0_ok) (addF_ok (entf_addLineAll_ok) (addF_ok (entf_addSourceAll_ok) (addF_ok (entf_addBayAll_ok) (addPure_ok ent_por_ok noCalls_ok))))))) Tryd.func14 rfl (by decide) (by kernel_rfl) (by kernel_rfl) (LpAll.none _) (by first | exact ⟨stnD_nl s, trivial⟩ | trivial) (by first | exact ⟨stnD_nl s, trivial⟩ | trivial) ?_
  refine of_eq (B := letI z8 := (ByteArray.mk (Array.mk ([] : List UInt8))); letI z34 := (busesD (Stn.bu s)); letI z22 := (D.v (Value.map (Option.none))); letI z24 := (D.v (Value.bool Bool.false)); letI z26 := (D.v (Value.bool Bool.true)); letI z18 := (D.v (Value.int IntKind.i64 (1 : Int))); letI z19 := (D.v (Value.int IntKind.i64 (2 : Int))); letI z31 := (D.v (Value.string z8)); letI z13 := (List.cons z22 (List.cons z24 (List.cons z26 (List.cons z18 (List.cons z19 (List.cons z31 (elsD ([] : List El)))))))); letI z2 := (runA buE buS (unBus z34) (g00 z8 (unEls (List.drop (6 : Nat) z13))) Bool.false); letI z64 := (Dg.bu (Prod.fst z2)); letI z9 := (busesD z64); letI z30 := (linesD ([] : List Lin)); letI z46 := (srcsD ([] : List Src)); letI z16 := (unSrc z46); letI z47 := (baysD ([] : List Bay)); letI z14 := (unBay z47); letI z10 := (List.cons z22 (List.cons z24 (List.cons z26 (List.cons z18 (List.cons z19 (List.cons z31 (elsD (Dg.es (Prod.fst z2))))))))); letI z0 := (Dg.mk z8 (unBus z9) (unLin z30) z16 z14 (unEls (List.drop (6 : Nat) z10))); letI z35 := (linesD (Stn.li s)); letI z4 := (runA liE liS (unLin z35) z0 Bool.false); letI z65 := (Dg.li (Prod.fst z4)); letI z15 := (linesD z65); letI z11 := (List.cons z22 (List.cons z24 (List.cons z26 (List.cons z18 (List.cons z19 (List.cons z31 (elsD (Dg.es (Prod.fst z4))))))))); letI z1 := (Dg.mk z8 (unBus z9) (unLin z15) z16 z14 (unEls (List.drop (6 : Nat) z11))); letI z36 := (unSrc (srcsD (Stn.so s))); letI z6 := (runA soE soS z36 z1 Bool.false); letI z66 := (Dg.so (Prod.fst z6)); letI z23 := (srcsD z66); letI z12 := (List.cons z22 (List.cons z24 (List.cons z26 (List.cons z18 (List.cons z19 (List.cons z31 (elsD (Dg.es (Prod.fst z6))))))))); letI z3 := (Dg.mk z8 (unBus z9) (unLin z15) (unSrc z23) z14 (unEls (List.drop (6 : Nat) z12))); letI z38 := (1000000007 : Nat); letI z17 := (((68 : Nat) = (68 : Nat)) ∧ ((z38 = z38) ∧ (z38 = z38))); letI z45 := Bool.true = Bool.true; letI z5 := ((z17 ∧ (((9 : Nat) = (9 : Nat)) ∧ (((57 : Nat) = (57 : Nat)) ∧ (((60 : Nat) = (60 : Nat)) ∧ ((52 : Nat) = (52 : Nat)))))) ∧ z45); letI z28 := (D.v (Value.int IntKind.i64 (chkP s))); letI z7 := (True ∧ (True ∧ (True ∧ ((D.v (Value.int IntKind.i64 (3 : Int))) = z28)))); letI z20 := ((!(Nat.beq (7 : Nat) (1 : Nat))) && Bool.true); letI z21 := (List.length (unBus z9)); letI z52 := List.length z14; letI z25 := (WkOk z52 z52 z47 (baysD z14)); letI z37 := (unBay (baysD (Stn.ba s))); letI z27 := (Prod.snd (Prod.snd (runA baE baS z37 z3 Bool.false))); letI z29 := (True ∧ (True ∧ (True ∧ z7))); letI z32 := (!(Nat.beq (7 : Nat) (2 : Nat))); letI z33 := (9223372036854775807 : Nat); letI z39 := ((!(Nat.beq (6 : Nat) (1 : Nat))) && Bool.true); letI z40 := ((!(Nat.beq (8 : Nat) (1 : Nat))) && Bool.true); letI z41 := (List.length (unLin z15)); letI z42 := (List.length (Stn.bu s)); letI z43 := (Prod.fst (Prod.snd z2)); letI z44 := ((1 : Nat) < (5 : Nat)); letI z69 := (busesD (unBus z9)); letI z48 := (WkOk z21 z21 z9 z69); letI z49 := (!(Nat.beq (6 : Nat) (2 : Nat))); letI z50 := (!(Nat.beq (8 : Nat) (2 : Nat))); letI z51 := List.length z16; letI z53 := (True ∧ (True ∧ z29)); letI z54 := (List.length (Stn.li s)); letI z55 := (List.length (Stn.so s)); letI z56 := (List.length (Stn.ba s)); letI z57 := (Prod.fst (Prod.snd z4)); letI z58 := (Prod.snd (Prod.snd z2)); letI z59 := (Prod.snd (Prod.snd z4)); letI z60 := (Prod.snd (Prod.snd z6)); letI z61 := ((2 : Nat) < (5 : Nat)); letI z62 := ((3 : Nat) < (5 : Nat)); letI z63 := ((4 : Nat) < (5 : Nat)); letI z67 := (linesD (unLin z15)); letI z68 := ((z42 : Nat) : Int); (True ∧ (True ∧ (True ∧ ((((0 : Nat) < (5 : Nat)) ∧ (IsStr (D.v (Value.string (Stn.n s))))) ∧ (((ByteArray.size (Stn.n s)) ≤ z33) ∧ (True ∧ (pcond (!(nameS (Stn.n s))) (True ∧ (True ∧ (True ∧ ((D.v (Value.int IntKind.i64 (7 : Int))) = z28)))) (True ∧ (z44 ∧ (True ∧ (True ∧ (True ∧ (pcond (z68 == (0 : Int)) (True ∧ (True ∧ z53)) (True ∧ (z44 ∧ (True ∧ (True ∧ (True ∧ (True ∧ (pcond (Decidable.decide ((4 : Int) < z68)) z53 (True ∧ (z61 ∧ (True ∧ (True ∧ (True ∧ (True ∧ (pcond (Decidable.decide ((6 : Int) < ((z54 : Nat) : Int))) z29 (True ∧ (z62 ∧ (True ∧ (True ∧ (True ∧ (True ∧ (pcond (Decidable.decide ((4 : Int) < ((z55 : Nat) : Int))) (True ∧ z7) (True ∧ (z63 ∧ (True ∧ (True ∧ (True ∧ (pcond (Decidable.decide ((16 : Int) < ((z56 : Nat) : Int))) z7 (((((ltAll (1 : Nat) ([] : List Nat)) && Bool.true) = Bool.true) ∧ True) ∧ (True ∧ ((((6 : Nat) = (6 : Nat)) ∧ ((6 : Nat) ≤ (6 : Nat))) ∧ (True ∧ (z44 ∧ (True ∧ (((((ltAll (3 : Nat) [(2 : Nat), (1 : Nat)]) && Bool.true) = Bool.true) ∧ ((z17 ∧ (z45 ∧ (EkOk z13))) ∧ ((BusOk z42 z34) ∧ ((∀ (x : ByteArray), ((List.Mem x (unBus z34)) → ((ByteArray.size x) ≤ z33))) ∧ ((List.length (unBus z34)) ≤ (1000 : Nat)))))) ∧ (True ∧ (z61 ∧ (True ∧ (((((ltAll (8 : Nat) [(7 : Nat), (5 : Nat), (6 : Nat), (2 : Nat), (4 : Nat), (1 : Nat)]) && ((z32 && ((!(Nat.beq (7 : Nat) (4 : Nat))) && z20)) && (((!(Nat.beq (5 : Nat) (2 : Nat))) && ((!(Nat.beq (5 : Nat) (4 : Nat))) && ((!(Nat.beq (5 : Nat) (1 : Nat))) && Bool.true))) && ((z49 && ((!(Nat.beq (6 : Nat) (4 : Nat))) && z39)) && Bool.true)))) = Bool.true) ∧ ((DgR.p (DgR.mk z0 (7 : Nat) (4 : Nat) (5 : Nat) (6 : Nat) (1 : Nat) z43 Bool.false Bool.false Bool.false (z5 ∧ ((WkOk (List.length z64) z21 z9 z69) ∧ ((WkOk (0 : Nat) (0 : Nat) z30 (linesD (unLin z30))) ∧ ((WkOk (0 : Nat) (0 : Nat) z46 (srcsD z16)) ∧ ((WkOk (0 : Nat) (0 : Nat) z47 (baysD z14)) ∧ (EkOk z10)))))))) ∧ ((LinOk z54 z35) ∧ ((∀ (x : Lin), ((List.Mem x (unLin z35)) → (okLin x))) ∧ ((sizes z0) ∧ (((List.length (unLin z30)) + (List.length (unLin z35))) ≤ (1000 : Nat))))))) ∧ (True ∧ (z62 ∧ (True ∧ (((((ltAll (9 : Nat) [(7 : Nat), (8 : Nat), (6 : Nat), (2 : Nat), (5 : Nat), (1 : Nat)]) && ((z32 && ((!(Nat.beq (7 : Nat) (5 : Nat))) && z20)) && ((z50 && ((!(Nat.beq (8 : Nat) (5 : Nat))) && z40)) && ((z49 && ((!(Nat.beq (6 : Nat) (5 : Nat))) && z39)) && Bool.true)))) = Bool.true) ∧ ((DgR.p (DgR.mk z1 (7 : Nat) (8 : Nat) (5 : Nat) (6 : Nat) (1 : Nat) z43 z57 Bool.false Bool.false (z5 ∧ (z48 ∧ ((WkOk (List.length z65) z41 z15 z67) ∧ ((WkOk z51 z51 z46 (srcsD z16)) ∧ (z25 ∧ (EkOk z11)))))))) ∧ ((SrcOk z55 (srcsD (Stn.so s))) ∧ ((∀ (x : Src), ((List.Mem x z36) → (okSrc x))) ∧ ((sizes z1) ∧ ((z51 + (List.length z36)) ≤ (1000 : Nat))))))) ∧ (True ∧ (z63 ∧ (True ∧ (((((ltAll (10 : Nat) [(7 : Nat), (8 : Nat), (9 : Nat), (2 : Nat), (6 : Nat), (1 : Nat)]) && ((z32 && ((!(Nat.beq (7 : Nat) (6 : Nat))) && z20)) && ((z50 && ((!(Nat.beq (8 : Nat) (6 : Nat))) && z40)) && (((!(Nat.beq (9 : Nat) (2 : Nat))) && ((!(Nat.beq (9 : Nat) (6 : Nat))) && ((!(Nat.beq (9 : Nat) (1 : Nat))) && Bool.true))) && Bool.true)))) = Bool.true) ∧ ((DgR.p (DgR.mk z3 (7 : Nat) (8 : Nat) (9 : Nat) (6 : Nat) (1 : Nat) z43 z57 (Prod.fst (Prod.snd z6)) Bool.false (z5 ∧ (z48 ∧ ((WkOk z41 z41 z15 z67) ∧ ((WkOk (List.length z66) (List.length (unSrc z23)) z23 (srcsD (unSrc z23))) ∧ (z25 ∧ (EkOk z12)))))))) ∧ ((BayOk z56 (baysD (Stn.ba s))) ∧ ((∀ (x : Bay), ((List.Mem x z37) → (okBay x))) ∧ ((sizes z3) ∧ ((z52 + (List.length z37)) ≤ (1000 : Nat))))))) ∧ ((((4 : Nat) ≤ (16777216 : Nat)) ∧ ((4 : Nat) ≤ z33)) ∧ (((((NamelessL [(D.v (Value.int IntKind.i64 z58)), (D.v (Value.int IntKind.i64 z59)), (D.v (Value.int IntKind.i64 z60)), (D.v (Value.int IntKind.i64 z27))]) ∧ (((0 : Nat) < (1 : Nat)) ∧ ((4 : Nat) ≤ (4 : Nat)))) ∧ True) ∧ True) ∧ (True ∧ (z45 ∧ (True ∧ (True ∧ ((D.v (Value.int IntKind.i64 (orE z58 (orE z59 (orE z60 z27))))) = z28))))))))))))))))))))))))))))))))))))))))))))))))))))))))))))))))))) (by kernel_rfl) ?_
  simp only [true_and, and_true, and_self, IsInt_lit, IsBool_lit, IsStr_lit, IsSl_lit, cellN_lit, cellL_lit, Bool.not_eq_true', Bool.not_eq_false', Bool.not_true, Bool.not_false, Int.reduceLE, Int.reduceLT, Int.reduceNeg, Nat.le_refl, Int.le_refl, Nat.reduceLT, Nat.reduceLeDiff, Nat.reduceEqDiff, D.v.injEq, D.tup.injEq, D.agg.injEq, D.ro.injEq, List.cons.injEq, Value.int.injEq, Value.bool.injEq, pcond_true, pcond_false, NamelessL, Nameless, Nat.reduceMul, Nat.reduceAdd, Nat.zero_add, Int.toNat_natCast, EkOk_lit, BusOk_lit, LinOk_lit, SrcOk_lit, BayOk_lit, Wk_refl, unBus_D, unLin_D, unSrc_D, unBay_D, unEls_D, List.drop_succ_cons, List.drop_zero, and_true, true_and, k1_def, k1_eta, k2_def, k2_eta, k3_def, k3_eta, k4_def, List.length_nil, Nat.zero_add]
  have e1 : ∀ (k n : Nat), decide ((k : Int) < (n : Int)) = decide (k < n) := fun k n => by rw [Bool.eq_iff_iff]; simp
  have g0 : ((s.bu.length : Int) == 0) = decide (s.bu.length < 1) := by rw [Bool.eq_iff_iff]; simp
  have g1 := e1 4 s.bu.length
  have g2 := e1 6 s.li.length
  have g3 := e1 4 s.so.length
  have g4 := e1 16 s.ba.length
  simp only [Int.ofNat_eq_natCast, Int.cast_ofNat_Int] at g1 g2 g3 g4
  rw [g0, g1, g2, g3, g4]
  refine ⟨hpre.1, pcond_intro (fun h => by rw [Bool.not_eq_true'] at h; unfold chkP; rw [h]; rfl) (fun h => ?_)⟩
  rw [Bool.not_eq_false'] at h
  have ev : chkP s = bif cntS s then elsP s else 3 := by unfold chkP; rw [h]; rfl
  rw [ev]
  refine pcond_intro (fun h1 => by unfold cntS; rw [h1]; rfl) (fun h1 => pcond_intro (fun h2 => by unfold cntS; rw [h1, h2]; rfl) (fun h2 => pcond_intro (fun h3 => by unfold cntS; rw [h1, h2, h3]; rfl) (fun h3 => pcond_intro (fun h4 => by unfold cntS; rw [h1, h2, h3, h4]; rfl) (fun h4 => pcond_intro (fun h5 => by unfold cntS; rw [h1, h2, h3, h4, h5]; rfl) (fun h5 => ?_)))))
  have hc : cntS s = true := by unfold cntS; rw [h1, h2, h3, h4, h5]; rfl
  rw [hc, cond_true]
  obtain ⟨z1, z2, z3⟩ := k_sizes s hc
  obtain ⟨q1, q2, q3, q4⟩ := cntS_few hc
  obtain ⟨m1, m2, m3, m4⟩ := okStn_lens hpre
  exact ⟨rfl, ⟨rfl, m1, fun x hx => hpre.2.1.2 x hx, q1⟩, ⟨rfl, m2, fun x hx => hpre.2.2.1.2 x hx, z1, q2⟩, ⟨rfl, m3, fun x hx => hpre.2.2.2.1.2 x hx, z2, q3⟩, ⟨rfl, m4, fun x hx => hpre.2.2.2.2.2 x hx, z3, q4⟩, rfl⟩
end Go.Proofs.YtfleadelfklenaaDoor
end
