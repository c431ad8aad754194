import Derived.Test.YtfleadelfklenaaGreatDoorZGw13
section
namespace Go.Proofs.YtfleadelfklenaaGreatDoor
open Go.VD
set_option linter.unusedVariables false
set_option linter.unusedSimpArgs false
set_option maxRecDepth 100000
def btw (n lo hi : Int) : Bool := decide (lo ≤ n) && decide (n ≤ hi)
def ohmB (z : Imp) : Bool := btw z.r 0 1000 && btw z.x 1 1000
def srcB (emf : Int) (z1 z0 : Imp) : Bool := btw emf 1 1000000 && (ohmB z1 && ohmB z0)
theorem rbtw_pure (n lo hi : Int) : PureJ Tryz.prog 83 [.v (.int .i64 n), .v (.int .i64 lo), .v (.int .i64 hi)] (.v (.bool (btw n lo hi))) := by
  refine pureJ_of_vcx (call := noCalls) (lp := fun _ => none) (N := 10) T_ok mixed noCalls_ok Tryz.func83 rfl (by decide) (by kernel_rfl) (by kernel_rfl) (LpAll.none _) (by first | trivial | (simp only [NamelessL, Nameless, and_self, and_true, true_and]; done) | (simp [NamelessL, Nameless, u32s_nameless, namelessL_ints]; done)) (by first | trivial | (simp only [NamelessL, Nameless, and_self, and_true, true_and]; done) | (simp [NamelessL, Nameless, u32s_nameless, namelessL_ints]; done)) ?_
  refine of_eq (B := letI z0 := (D.v (Value.bool (btw n lo hi))); (True ∧ (True ∧ (True ∧ (True ∧ (True ∧ (pcond (Decidable.decide (lo ≤ n)) (True ∧ (True ∧ (True ∧ (True ∧ (True ∧ (True ∧ (True ∧ ((D.v (Value.bool (Decidable.decide (n ≤ hi)))) = z0)))))))) (True ∧ (True ∧ (True ∧ (True ∧ ((D.v (Value.bool Bool.false)) = z0)))))))))))) (by kernel_rfl) ?_
  simp only [true_and, and_true, and_self, IsInt_lit, IsBool_lit, IsStr_lit, IsSl_lit, cellN_lit, cellL_lit, Bool.not_eq_true', Bool.not_eq_false', Bool.not_true, Bool.not_false, Int.reduceLE, Int.reduceLT, Int.reduceNeg, Nat.le_refl, Int.le_refl, Nat.reduceLT, Nat.reduceLeDiff, Nat.reduceEqDiff, D.v.injEq, D.tup.injEq, D.agg.injEq, D.ro.injEq, List.cons.injEq, Value.int.injEq, Value.bool.injEq, pcond_true, pcond_false, NamelessL, Nameless, Nat.reduceMul, Nat.reduceAdd, Nat.zero_add, Int.toNat_natCast]
  unfold btw
  exact pcond_intro (fun h => by rw [h]; rfl) (fun h => by rw [h]; rfl)
def ent_rbtw : Ent := fun ds => match ds with
  | [.v (.int .i64 n), .v (.int .i64 lo), .v (.int .i64 hi)] => some (.v (.bool (btw n lo hi)), True)
  | _ => none
theorem ent_rbtw_ok : EntOk Tryz.prog 83 ent_rbtw := by
  intro ds d c h hc; unfold ent_rbtw at h; split at h
  · obtain ⟨rfl, rfl⟩ := pair_inj h; exact rbtw_pure _ _ _
  · cases h
theorem rohm_pure (r x : Int) : PureJ Tryz.prog 40 [.agg [.v (.int .i64 r), .v (.int .i64 x)]] (.v (.bool (ohmB ⟨r, x⟩))) := by
  refine pureJ_of_vcx (call := (addPure 83 ent_rbtw noCalls)) (lp := fun _ => none) (N := 10) T_ok mixed (addPure_ok ent_rbtw_ok noCalls_ok) Tryz.func40 rfl (by decide) (by kernel_rfl) (by kernel_rfl) (LpAll.none _) (by first | trivial | (simp only [NamelessL, Nameless, and_self, and_true, true_and]; done) | (simp [NamelessL, Nameless, u32s_nameless, namelessL_ints]; done)) (by first | trivial | (simp only [NamelessL, Nameless, and_self, and_true, true_and]; done) | (simp [NamelessL, Nameless, u32s_nameless, namelessL_ints]; done)) ?_
  refine of_eq (B := letI z0 := (D.v (Value.bool (ohmB (Imp.mk r x)))); (True ∧ (True ∧ (True ∧ ((((0 : Nat) < (2 : Nat)) ∧ (IsInt IntKind.i64 (D.v (Value.int IntKind.i64 r)))) ∧ (True ∧ (True ∧ (pcond (btw r (0 : Int) (1000 : Int)) (True ∧ ((((1 : Nat) < (2 : Nat)) ∧ (IsInt IntKind.i64 (D.v (Value.int IntKind.i64 x)))) ∧ (True ∧ (True ∧ (True ∧ (True ∧ (True ∧ ((D.v (Value.bool (btw x (1 : Int) (1000 : Int)))) = z0)))))))) (True ∧ (True ∧ (True ∧ (True ∧ ((D.v (Value.bool Bool.false)) = z0))))))))))))) (by kernel_rfl) ?_
  simp only [true_and, and_true, and_self, IsInt_lit, IsBool_lit, IsStr_lit, IsSl_lit, cellN_lit, cellL_lit, Bool.not_eq_true', Bool.not_eq_false', Bool.not_true, Bool.not_false, Int.reduceLE, Int.reduceLT, Int.reduceNeg, Nat.le_refl, Int.le_refl, Nat.reduceLT, Nat.reduceLeDiff, Nat.reduceEqDiff, D.v.injEq, D.tup.injEq, D.agg.injEq, D.ro.injEq, List.cons.injEq, Value.int.injEq, Value.bool.injEq, pcond_true, pcond_false, NamelessL, Nameless, Nat.reduceMul, Nat.reduceAdd, Nat.zero_add, Int.toNat_natCast]
  unfold ohmB
  exact pcond_intro (fun h => by rw [h]; rfl) (fun h => by rw [h]; rfl)
def ent_rohm : Ent := fun ds => match ds with
  | [.agg [.v (.int .i64 r), .v (.int .i64 x)]] => some (.v (.bool (ohmB ⟨r, x⟩)), True)
  | _ => none
theorem ent_rohm_ok : EntOk Tryz.prog 40 ent_rohm := by
  intro ds d c h hc; unfold ent_rohm at h; split at h
  · obtain ⟨rfl, rfl⟩ := pair_inj h; exact rohm_pure _ _
  · cases h
theorem rsrc_pure (n : ByteArray) (emf r1 x1 r0 x0 : Int) : PureJ Tryz.prog 41 [.agg [.v (.string n), .v (.int .i64 emf), .v (.int .i64 r1), .v (.int .i64 x1), .v (.int .i64 r0), .v (.int .i64 x0)]] (.v (.bool (srcB emf ⟨r1, x1⟩ ⟨r0, x0⟩))) := by
  refine pureJ_of_vcx (call := (addPure 83 ent_rbtw (addPure 40 ent_rohm noCalls))) (lp := fun _ => none) (N := 10) T_ok mixed (addPure_ok ent_rbtw_ok (addPure_ok ent_rohm_ok noCalls_ok)) Tryz.func41 rfl (by decide) (by kernel_rfl) (by kernel_rfl) (LpAll.none _) (by first | trivial | (simp only [NamelessL, Nameless, and_self, and_true, true_and]; done) | (simp [NamelessL, Nameless, u32s_nameless, namelessL_ints]; done)) (by first | trivial | (simp only [NamelessL, Nameless, and_self, and_true, true_and]; done) | (simp [NamelessL, Nameless, u32s_nameless, namelessL_ints]; done)) ?_
  refine of_eq (B := letI z1 := (D.v (Value.bool (srcB emf (Imp.mk r1 x1) (Imp.mk r0 x0)))); letI z0 := (True ∧ (True ∧ (True ∧ (True ∧ ((D.v (Value.bool Bool.false)) = z1))))); (True ∧ (True ∧ (True ∧ ((((1 : Nat) < (6 : Nat)) ∧ (IsInt IntKind.i64 (D.v (Value.int IntKind.i64 emf)))) ∧ (True ∧ (True ∧ (pcond (btw emf (1 : Int) (1000000 : Int)) (True ∧ (((4 : Nat) ≤ (6 : Nat)) ∧ (True ∧ (True ∧ (True ∧ (pcond (ohmB (Imp.mk r1 x1)) (True ∧ (((6 : Nat) ≤ (6 : Nat)) ∧ (True ∧ (True ∧ (True ∧ (True ∧ (True ∧ ((D.v (Value.bool (ohmB (Imp.mk r0 x0)))) = z1)))))))) z0)))))) (True ∧ (True ∧ z0)))))))))) (by kernel_rfl) ?_
  simp only [true_and, and_true, and_self, IsInt_lit, IsBool_lit, IsStr_lit, IsSl_lit, cellN_lit, cellL_lit, Bool.not_eq_true', Bool.not_eq_false', Bool.not_true, Bool.not_false, Int.reduceLE, Int.reduceLT, Int.reduceNeg, Nat.le_refl, Int.le_refl, Nat.reduceLT, Nat.reduceLeDiff, Nat.reduceEqDiff, D.v.injEq, D.tup.injEq, D.agg.injEq, D.ro.injEq, List.cons.injEq, Value.int.injEq, Value.bool.injEq, pcond_true, pcond_false, NamelessL, Nameless, Nat.reduceMul, Nat.reduceAdd, Nat.zero_add, Int.toNat_natCast]
  unfold srcB
  exact pcond_intro (fun h => by rw [h]; exact pcond_intro (fun h => by rw [h]; rfl) (fun h => by rw [h]; rfl)) (fun h => by rw [h]; rfl)
def ent_rsrc : Ent := fun ds => match ds with
  | [.agg [.v (.string n), .v (.int .i64 emf), .v (.int .i64 r1), .v (.int .i64 x1), .v (.int .i64 r0), .v (.int .i64 x0)]] => some (.v (.bool (srcB emf ⟨r1, x1⟩ ⟨r0, x0⟩)), True)
  | _ => none
theorem ent_rsrc_ok : EntOk Tryz.prog 41 ent_rsrc := by
  intro ds d c h hc; unfold ent_rsrc at h; split at h
  · obtain ⟨rfl, rfl⟩ := pair_inj h; exact rsrc_pure _ _ _ _ _ _
  · cases h
def objE (nl ns : Nat) (kind of : Int) : Int :=
  bif kind == 1 then (bif btw of 0 ((nl : Int) - 1) then 0 else 9) else
  bif kind == 2 then (bif btw of 0 ((ns : Int) - 1) then 0 else 9) else
  bif kind == 3 then (bif of == 0 then 0 else 9) else 10
theorem btw_lt (n : Int) (k : Nat) : btw n 0 ((k : Int) - 1) = (!decide (n < 0) && !decide ((k : Int) ≤ n)) := by
  unfold btw; rw [Bool.eq_iff_iff]; simp; omega
theorem robj_pure (s : Stn) (b : Bay) (hpre : okStn s) : PureJ Tryz.prog 84 [.agg (d_stnL s), .agg (d_bayL b)] (.v (.int .i64 (objE s.li.length s.so.length b.kind b.of))) := by
  refine pureJ_of_vcx (call := noCalls) (lp := fun _ => none) (N := 10) T_ok mixed noCalls_ok Tryz.func84 rfl (by decide) (by kernel_rfl) (by kernel_rfl) (LpAll.none _) (by first | exact ⟨stnD_nl s, bayD_nl b, trivial⟩ | trivial) (by first | exact ⟨stnD_nl s, bayD_nl b, trivial⟩ | trivial) ?_
  refine of_eq (B := letI z5 := (List.length (Stn.li s)); letI z6 := (List.length (Stn.so s)); letI z0 := (D.v (Value.int IntKind.i64 (objE z5 z6 (Bay.kind b) (Bay.of b)))); letI z1 := (((2 : Nat) < (12 : Nat)) ∧ (IsInt IntKind.i64 (D.v (Value.int IntKind.i64 (Bay.of b))))); letI z2 := (True ∧ (True ∧ (True ∧ ((D.v (Value.int IntKind.i64 (9 : Int))) = z0)))); letI z3 := (True ∧ (True ∧ (True ∧ ((D.v (Value.int IntKind.i64 (0 : Int))) = z0)))); letI z4 := (Decidable.decide ((Bay.of b) < (0 : Int))); (True ∧ (True ∧ (True ∧ (True ∧ ((((1 : Nat) < (12 : Nat)) ∧ (IsInt IntKind.i64 (D.v (Value.int IntKind.i64 (Bay.kind b))))) ∧ (True ∧ (True ∧ (pcond ((Bay.kind b) == (1 : Int)) (True ∧ (z1 ∧ (True ∧ (True ∧ (pcond z4 (True ∧ z2) (True ∧ (z1 ∧ (True ∧ (((2 : Nat) < (5 : Nat)) ∧ (True ∧ (True ∧ (True ∧ (pcond (Decidable.decide (((z5 : Nat) : Int) ≤ (Bay.of b))) z2 z3))))))))))))) (True ∧ (True ∧ (pcond ((Bay.kind b) == (2 : Int)) (True ∧ (z1 ∧ (True ∧ (True ∧ (pcond z4 (True ∧ z2) (True ∧ (z1 ∧ (True ∧ (((3 : Nat) < (5 : Nat)) ∧ (True ∧ (True ∧ (True ∧ (pcond (Decidable.decide (((z6 : Nat) : Int) ≤ (Bay.of b))) z2 z3))))))))))))) (True ∧ (True ∧ (pcond ((Bay.kind b) == (3 : Int)) (True ∧ (z1 ∧ (True ∧ (pcond ((Bay.of b) != (0 : Int)) z2 z3)))) (True ∧ (True ∧ (True ∧ ((D.v (Value.int IntKind.i64 (10 : Int))) = z0))))))))))))))))))) (by kernel_rfl) ?_
  simp only [true_and, and_true, and_self, IsInt_lit, IsBool_lit, IsStr_lit, IsSl_lit, cellN_lit, cellL_lit, Bool.not_eq_true', Bool.not_eq_false', Bool.not_true, Bool.not_false, Int.reduceLE, Int.reduceLT, Int.reduceNeg, Nat.le_refl, Int.le_refl, Nat.reduceLT, Nat.reduceLeDiff, Nat.reduceEqDiff, D.v.injEq, D.tup.injEq, D.agg.injEq, D.ro.injEq, List.cons.injEq, Value.int.injEq, Value.bool.injEq, pcond_true, pcond_false, NamelessL, Nameless, Nat.reduceMul, Nat.reduceAdd, Nat.zero_add, Int.toNat_natCast]
  unfold objE; rw [btw_lt, btw_lt]
  refine pcond_intro (fun h => ?_) (fun h => ?_)
  · rw [h, cond_true]
    exact pcond_intro (fun h1 => by rw [h1]; rfl) (fun h1 => pcond_intro (fun h2 => by rw [h1, h2]; rfl) (fun h2 => by rw [h1, h2]; rfl))
  · rw [h, cond_false]
    refine pcond_intro (fun h => ?_) (fun h => ?_)
    · rw [h, cond_true]
      exact pcond_intro (fun h1 => by rw [h1]; rfl) (fun h1 => pcond_intro (fun h2 => by rw [h1, h2]; rfl) (fun h2 => by rw [h1, h2]; rfl))
    · rw [h, cond_false]
      refine pcond_intro (fun h => ?_) (fun h => by rw [h]; rfl)
      rw [h, cond_true]
      exact pcond_intro (fun h1 => by rw [bne_iff_ne] at h1; rw [beq_false_of_ne h1]; rfl) (fun h1 => by rw [bne_eq_false_iff_eq] at h1; rw [h1]; rfl)
def ent_robj : Ent := fun ds => match ds with
  | [.agg [.v (.string n), .ro nb xb, .ro nl xl, .ro ns xs, .ro ny xy],
     .agg [.v (.string bn), .v (.int .i64 k), .v (.int .i64 o), .v (.int .i64 e), .v (.int .i64 r), .v (.int .i64 x), .ro m ls, .v (.bool cl), .v (.int .i64 ct), .v (.int .i64 vt), .v (.int .i64 sa), .v (.int .i64 tr)]] =>
    some (.v (.int .i64 (objE nl ns k o)), StnOk ⟨n, unBus xb, unLin xl, unSrc xs, unBay xy⟩ nb nl ns ny xb xl xs xy ∧ LnkOk m ls)
  | _ => none
theorem ent_robj_ok : EntOk Tryz.prog 84 ent_robj := by
  intro ds d c hd hc; unfold ent_robj at hd; split at hd
  · rename_i n nb xb nl xl ns xs ny xy bn k o e r x m ls cl ct vt sa tr
    obtain ⟨rfl, rfl⟩ := pair_inj hd
    obtain ⟨⟨⟨⟨⟨a1, a2⟩, -⟩, ⟨⟨b1, b2⟩, -⟩, ⟨⟨c1, c2⟩, -⟩, ⟨⟨d1, d2⟩, -⟩⟩, ho⟩, ⟨e1, e2⟩, -⟩ := hc
    generalize unBus xb = u1 at *
    generalize unLin xl = u2 at *
    generalize unSrc xs = u3 at *
    generalize unBay xy = u4 at *
    generalize unLnk ls = u5 at *
    subst a1; subst a2; subst b1; subst b2; subst c1; subst c2; subst d1; subst d2; subst e1; subst e2
    exact robj_pure ⟨n, u1, u2, u3, u4⟩ ⟨bn, k, o, e, ⟨r, x⟩, u5, cl, ct, vt, sa, tr⟩ ho
  · cases hd
def rngB (kind end_ : Int) (z : Imp) (ct vt sat tr : Int) : Bool :=
  (bif kind == 1 then btw end_ 0 1 else end_ == 0) && ((bif kind == 3 then ohmB z else (z.r == 0 && z.x == 0)) && (btw ct 1 100 && ((bif kind == 3 then vt == 0 else btw vt 1 10000) && (btw sat 0 16383 && btw tr 1 6))))
theorem rrng_pure (b : Bay) : PureJ Tryz.prog 85 [.agg (d_bayL b)] (.v (.bool (rngB b.kind b.end_ b.z b.ct b.vt b.sat b.tr))) := by
  refine pureJ_of_vcx (call := (addPure 83 ent_rbtw (addPure 40 ent_rohm noCalls))) (lp := fun _ => none) (N := 10) T_ok mixed (addPure_ok ent_rbtw_ok (addPure_ok ent_rohm_ok noCalls_ok)) Tryz.func85 rfl (by decide) (by kernel_rfl) (by kernel_rfl) (LpAll.none _) (by first | exact ⟨bayD_nl b, trivial⟩ | trivial) (by first | exact ⟨bayD_nl b, trivial⟩ | trivial) ?_
  refine of_eq (B := letI z13 := ((Bay.kind b) == (3 : Int)); letI z19 := ((6 : Nat) ≤ (12 : Nat)); letI z20 := ((0 : Nat) < (2 : Nat)); letI z16 := (Imp.r (Bay.z b)); letI z14 := (IsInt IntKind.i64 (D.v (Value.int IntKind.i64 (0 : Int)))); letI z21 := ((1 : Nat) < (2 : Nat)); letI z17 := (Imp.x (Bay.z b)); letI z9 := (D.v (Value.bool (rngB (Bay.kind b) (Bay.end_ b) (Bay.z b) (Bay.ct b) (Bay.vt b) (Bay.sat b) (Bay.tr b)))); letI z3 := (True ∧ (True ∧ (True ∧ ((D.v (Value.bool Bool.false)) = z9)))); letI z7 := (([] : List Value) = ([] : List Value)); letI z15 := (z7 ∧ (z7 ∧ (z7 ∧ (True ∧ z3)))); letI z2 := (z7 ∧ z15); letI z12 := (((9 : Nat) < (12 : Nat)) ∧ (IsInt IntKind.i64 (D.v (Value.int IntKind.i64 (Bay.vt b))))); letI z6 := (True ∧ ((((10 : Nat) < (12 : Nat)) ∧ (IsInt IntKind.i64 (D.v (Value.int IntKind.i64 (Bay.sat b))))) ∧ (True ∧ (True ∧ (pcond (btw (Bay.sat b) (0 : Int) (16383 : Int)) (True ∧ ((((11 : Nat) < (12 : Nat)) ∧ (IsInt IntKind.i64 (D.v (Value.int IntKind.i64 (Bay.tr b))))) ∧ (True ∧ (True ∧ (True ∧ (True ∧ (True ∧ ((D.v (Value.bool (btw (Bay.tr b) (1 : Int) (6 : Int)))) = z9)))))))) (True ∧ z3)))))); letI z1 := (True ∧ (True ∧ (True ∧ (pcond (!z13) (True ∧ (z12 ∧ (True ∧ (True ∧ (True ∧ (True ∧ (pcond (!(btw (Bay.vt b) (1 : Int) (10000 : Int))) z3 z6))))))) (True ∧ (True ∧ z6)))))); letI z5 := (True ∧ ((((8 : Nat) < (12 : Nat)) ∧ (IsInt IntKind.i64 (D.v (Value.int IntKind.i64 (Bay.ct b))))) ∧ (True ∧ (True ∧ (True ∧ (pcond (!(btw (Bay.ct b) (1 : Int) (100 : Int))) (z7 ∧ (z7 ∧ (z7 ∧ (True ∧ (True ∧ z2))))) (True ∧ (True ∧ (pcond z13 (True ∧ (z12 ∧ (True ∧ (True ∧ (True ∧ (True ∧ (pcond ((Bay.vt b) != (0 : Int)) z2 z1))))))) (True ∧ (True ∧ (True ∧ z1)))))))))))); letI z0 := (True ∧ (True ∧ (True ∧ (pcond (!z13) (True ∧ (z19 ∧ (True ∧ ((((z20 ∧ (IsInt IntKind.i64 (D.v (Value.int IntKind.i64 z16)))) ∧ (z20 ∧ z14)) ∧ (True ∧ (((z21 ∧ (IsInt IntKind.i64 (D.v (Value.int IntKind.i64 z17)))) ∧ (z21 ∧ z14)) ∧ (True ∧ True)))) ∧ (True ∧ (True ∧ (pcond (!((z16 == (0 : Int)) && ((z17 == (0 : Int)) && Bool.true))) z3 z5))))))) (True ∧ (True ∧ z5)))))); letI z18 := ((Bay.kind b) == (1 : Int)); letI z11 := (((3 : Nat) < (12 : Nat)) ∧ (IsInt IntKind.i64 (D.v (Value.int IntKind.i64 (Bay.end_ b))))); letI z8 := (True ∧ (True ∧ (pcond z13 (True ∧ (z19 ∧ (True ∧ (True ∧ (True ∧ (True ∧ (pcond (!(ohmB (Imp.mk z16 z17))) z2 z0))))))) (True ∧ (True ∧ z0))))); letI z4 := (True ∧ (True ∧ (True ∧ (pcond (!z18) (True ∧ (z11 ∧ (True ∧ (True ∧ (True ∧ (pcond ((Bay.end_ b) != (0 : Int)) z3 z8)))))) (True ∧ (True ∧ z8)))))); letI z10 := (((1 : Nat) < (12 : Nat)) ∧ (IsInt IntKind.i64 (D.v (Value.int IntKind.i64 (Bay.kind b))))); (True ∧ (True ∧ (True ∧ (z10 ∧ (True ∧ (True ∧ (z10 ∧ (True ∧ (True ∧ (True ∧ ((Bool.true = Bool.true) ∧ (True ∧ (True ∧ (pcond z18 (True ∧ (z11 ∧ (True ∧ (True ∧ (True ∧ (True ∧ (pcond (!(btw (Bay.end_ b) (0 : Int) (1 : Int))) z15 z4))))))) (True ∧ (True ∧ z4))))))))))))))))) (by kernel_rfl) ?_
  simp only [true_and, and_true, and_self, IsInt_lit, IsBool_lit, IsStr_lit, IsSl_lit, cellN_lit, cellL_lit, Bool.not_eq_true', Bool.not_eq_false', Bool.not_true, Bool.not_false, Int.reduceLE, Int.reduceLT, Int.reduceNeg, Nat.le_refl, Int.le_refl, Nat.reduceLT, Nat.reduceLeDiff, Nat.reduceEqDiff, D.v.injEq, D.tup.injEq, D.agg.injEq, D.ro.injEq, List.cons.injEq, Value.int.injEq, Value.bool.injEq, pcond_true, pcond_false, NamelessL, Nameless, Nat.reduceMul, Nat.reduceAdd, Nat.zero_add, Int.toNat_natCast]
  have eo : ohmB ⟨b.z.r, b.z.x⟩ = ohmB b.z := rfl
  simp only [bne, Bool.and_true, eo]
  unfold rngB
  generalize (b.kind == 1) = k1
  generalize (b.kind == 3) = k3
  generalize btw b.end_ 0 1 = a1
  generalize (b.end_ == 0) = a2
  generalize ohmB b.z = a3
  generalize (b.z.r == 0 && b.z.x == 0) = a4
  generalize btw b.ct 1 100 = a5
  generalize (b.vt == 0) = a6
  generalize btw b.vt 1 10000 = a7
  generalize btw b.sat 0 16383 = a8
  generalize btw b.tr 1 6 = a9
  cases k1 <;> cases k3 <;> simp only [pcond_true, pcond_false, Bool.not_true, Bool.not_false, cond_true, cond_false]
  all_goals (cases a1 <;> cases a2 <;> simp only [pcond_true, pcond_false, Bool.not_true, Bool.not_false, Bool.false_and, Bool.true_and])
  all_goals (cases a3 <;> cases a4 <;> simp only [pcond_true, pcond_false, Bool.not_true, Bool.not_false, Bool.false_and, Bool.true_and])
  all_goals (cases a5 <;> cases a6 <;> simp only [pcond_true, pcond_false, Bool.not_true, Bool.not_false, Bool.false_and, Bool.true_and])
  all_goals (cases a7 <;> cases a8 <;> simp only [pcond_true, pcond_false, Bool.not_true, Bool.not_false, Bool.false_and, Bool.true_and])
def ent_rrng : Ent := fun ds => match ds with
  | [.agg [.v (.string bn), .v (.int .i64 k), .v (.int .i64 o), .v (.int .i64 e), .v (.int .i64 r), .v (.int .i64 x), .ro m ls, .v (.bool cl), .v (.int .i64 ct), .v (.int .i64 vt), .v (.int .i64 sa), .v (.int .i64 tr)]] =>
    some (.v (.bool (rngB k e ⟨r, x⟩ ct vt sa tr)), LnkOk m ls)
  | _ => none
theorem ent_rrng_ok : EntOk Tryz.prog 85 ent_rrng := by
  intro ds d c hd hc; unfold ent_rrng at hd; split at hd
  · rename_i bn k o e r x m ls cl ct vt sa tr
    obtain ⟨rfl, rfl⟩ := pair_inj hd
    obtain ⟨⟨e1, e2⟩, -⟩ := hc
    generalize unLnk ls = u5 at *
    subst e1; subst e2
    exact rrng_pure ⟨bn, k, o, e, ⟨r, x⟩, u5, cl, ct, vt, sa, tr⟩
  · cases hd
def hasN (l : List ByteArray) (s : ByteArray) : Bool := (List.range l.length).any fun i => sE (l.getD i default) s
def idxS (l : List ByteArray) (s : ByteArray) : Int := match (List.range l.length).find? (fun i => sE (l.getD i default) s) with
  | some i => (i : Int)
  | none => -1
theorem idxS_none {l : List ByteArray} {s : ByteArray} (h : ∀ i, i < l.length → sE (l.getD i default) s = false) : idxS l s = -1 := by
  unfold idxS; rw [List.find?_eq_none.2]
  intro i hi; rw [h i (List.mem_range.1 hi)]; simp
theorem idxS_some {l : List ByteArray} {s : ByteArray} {i : Nat} (hi : i < l.length) (h : ∀ j, j < i → sE (l.getD j default) s = false) (he : sE (l.getD i default) s = true) : idxS l s = (i : Int) := by
  unfold idxS
  have : (List.range l.length).find? (fun i => sE (l.getD i default) s) = some i := by
    rw [List.find?_range_eq_some]
    exact ⟨he, List.mem_range.2 hi, fun j hj => by rw [h j hj]; rfl⟩
  rw [this]
theorem idxS_nonneg (l : List ByteArray) (s : ByteArray) : decide (0 ≤ idxS l s) = hasN l s := by
  unfold idxS hasN
  rw [Bool.eq_iff_iff, List.any_eq_true]
  cases h : (List.range l.length).find? (fun i => sE (l.getD i default) s) with
  | none =>
    rw [List.find?_eq_none] at h
    simp only [decide_eq_true_eq]
    refine ⟨fun h => by omega, fun ⟨x, hx, hs⟩ => absurd hs (h x hx)⟩
  | some i =>
    simp only [decide_eq_true_eq]
    refine ⟨fun _ => ⟨i, List.mem_of_find?_eq_some h, by simpa using List.find?_some h⟩, fun _ => by omega⟩
def lp_ridxLoop (l : List ByteArray) (s : ByteArray) : LoopO := loopRule2 (α := Nat) (β := Unit) (γ := Nat) [] (fun i => i ≤ l.length ∧ ∀ j, j < i → sE (l.getD j default) s = false) (fun i => [(0, .ro l.length (busesD l)), (1, d_s s), (5, d_i (i : Int))]) (fun i => []) (0) (fun _ => idxS l s = -1) (fun _ => (.exit 0, [], [])) (fun i => idxS l s = (i : Int)) (fun i => (.ret, [(4, d_i (i : Int))], []))
theorem ridxLoop_rule (l : List ByteArray) (s : ByteArray) (hpre : l.length ≤ maxLen) : LRuleP Tryz.prog Tryz.f82.ntmps (loopAt ((Tryz.f82.body).getD .skip) 2) (lp_ridxLoop l s) := by
  refine lrule_of2 (α := Nat) (β := Unit) (γ := Nat) (call := noCalls) (lp := fun _ => none) (N := 10) T_ok mixed noCalls_ok (fun i => l.length - i) (by kernel_rfl) (LpAllP.none _) ?_
  intro x hJ
  refine of_eq (B := letI z0 := ([] : List (Option Blk)); letI z4 := (Exit.exit (0 : Nat)); letI z7 := ([] : List (Prod Nat D)); letI z1 := (Prod.mk z4 (Prod.mk z7 z0)); letI z2 := ((x : Nat) : Int); letI z3 := List.length l; letI z9 := ((Int.toNat z2) * (1 : Nat)); letI z5 := (List.getD (busesD l) z9 (Inhabited.default)); letI z6 := (List (Option Nat)); letI z8 := (Prod.mk (0 : Nat) (D.ro z3 (busesD l))); letI z10 := ((idxS l s) = (-(1 : Int))); (True ∧ (True ∧ (True ∧ (True ∧ (pcond (Decidable.decide (z2 < ((z3 : Nat) : Int))) (True ∧ (True ∧ ((((0 : Int) ≤ z2) ∧ (z2 < ((z3 : Nat) : Int))) ∧ (((z9 < (List.length (busesD l))) ∧ (IsStr z5)) ∧ (True ∧ (True ∧ (pcond ((ByteArray.toList (cellStr z5)) == (ByteArray.toList s)) (True ∧ (True ∧ ((∃ (r : Unit), (∃ (kp : z6), (z10 ∧ ((Exit.ret = z4) ∧ (viewAll kp z7 z0 (Prod.fst (Prod.snd ((fun (x_1 : Unit) => z1) r))) (Prod.snd (Prod.snd ((fun (x_1 : Unit) => z1) r)))))))) ∨ (∃ (r : Nat), (∃ (kp : z6), (((idxS l s) = ((r : Nat) : Int)) ∧ ((Exit.ret = Exit.ret) ∧ (viewAll kp [(Prod.mk (4 : Nat) (D.v (Value.int IntKind.i64 z2)))] z0 (Prod.fst (Prod.snd ((fun (i : Nat) => (Prod.mk Exit.ret (Prod.mk [(Prod.mk (4 : Nat) (d_i ((i : Nat) : Int)))] z0))) r))) (Prod.snd (Prod.snd ((fun (i : Nat) => (Prod.mk Exit.ret (Prod.mk [(Prod.mk (4 : Nat) (d_i ((i : Nat) : Int)))] z0))) r))))))))))) (True ∧ (True ∧ (True ∧ (∃ (y : Nat), (∃ (kp : z6), (((z3 - y) < (z3 - x)) ∧ (((y ≤ z3) ∧ (∀ (j : Nat), ((j < y) → ((sE (List.getD l j (Inhabited.default)) s) = Bool.false)))) ∧ (viewAll kp [z8, (Prod.mk (1 : Nat) (D.v (Value.string s))), (Prod.mk (5 : Nat) (D.v (Value.int IntKind.i64 (IntKind.wrap IntKind.i64 (z2 + (1 : Int))))))] z0 [z8, (Prod.mk (1 : Nat) (d_s s)), (Prod.mk (5 : Nat) (d_i ((y : Nat) : Int)))] z0))))))))))))))) ((∃ (r : Unit), (∃ (kp : z6), (z10 ∧ ((z4 = z4) ∧ (viewAll kp z7 z0 (Prod.fst (Prod.snd ((fun (x_1 : Unit) => z1) r))) (Prod.snd (Prod.snd ((fun (x_1 : Unit) => z1) r)))))))) ∨ (∃ (r : Nat), (∃ (kp : z6), (((idxS l s) = ((r : Nat) : Int)) ∧ ((z4 = Exit.ret) ∧ (viewAll kp z7 z0 (Prod.fst (Prod.snd ((fun (i : Nat) => (Prod.mk Exit.ret (Prod.mk [(Prod.mk (4 : Nat) (d_i ((i : Nat) : Int)))] z0))) r))) (Prod.snd (Prod.snd ((fun (i : Nat) => (Prod.mk Exit.ret (Prod.mk [(Prod.mk (4 : Nat) (d_i ((i : Nat) : Int)))] z0))) r))))))))))))))) (by kernel_rfl) ?_
  have hm : l.length ≤ 9223372036854775807 := hpre
  obtain ⟨hx, hall⟩ := hJ
  simp only [true_and, and_true, and_self, IsInt_lit, IsBool_lit, IsStr_lit, IsSl_lit, cellN_lit, cellL_lit, Bool.not_eq_true', Bool.not_eq_false', Bool.not_true, Bool.not_false, Int.reduceLE, Int.reduceLT, Int.reduceNeg, Nat.le_refl, Int.le_refl, Nat.reduceLT, Nat.reduceLeDiff, Nat.reduceEqDiff, D.v.injEq, D.tup.injEq, D.agg.injEq, D.ro.injEq, List.cons.injEq, Value.int.injEq, Value.bool.injEq, pcond_true, pcond_false, NamelessL, Nameless, Nat.reduceMul, Nat.reduceAdd, Nat.zero_add, Int.toNat_natCast]
  refine pcond_intro (fun h => ?_) (fun h => .inl ⟨(), [], ?_, ⟨rfl, rfl, trivial⟩⟩)
  · simp only [decide_eq_true_eq] at h
    have hxa : x < l.length := by omega
    have ga := busesD_get l x hxa
    have ha := busesD_length l
    simp only [Nat.mul_one, ga, cellStr_lit, IsStr_lit, wrap_succ hxa hm, true_and, and_true]
    have e1 : ∀ u v : ByteArray, (u.toList == v.toList) = sE u v := fun _ _ => rfl
    rw [e1]
    refine ⟨⟨by omega, by omega⟩, by omega, pcond_intro (fun h1 => .inr ⟨x, [], idxS_some hxa hall h1, ⟨rfl, rfl, ⟨trivial, rfl⟩, trivial⟩⟩) (fun h1 => ⟨x + 1, [], by omega, ⟨by omega, fun j hj => ?_⟩, ⟨rfl, rfl, ⟨trivial, rfl⟩, ⟨trivial, rfl⟩, ⟨trivial, rfl⟩, trivial⟩⟩)⟩
    rcases Nat.lt_or_ge j x with h2 | h2
    · exact hall j h2
    · rw [show j = x by omega]; exact h1
  · simp only [decide_eq_false_iff_not] at h
    exact idxS_none fun j hj => hall j (by omega)
theorem ridx_pure (l : List ByteArray) (s : ByteArray) (hpre : l.length ≤ maxLen) : PureJ Tryz.prog 82 [.ro l.length (busesD l), .v (.string s)] (.v (.int .i64 (idxS l s))) := by
  refine pureJ_of_vcp (call := noCalls) (lp := fun reg__ => bif Nat.beq reg__ 2 then some (lp_ridxLoop l s) else none) (N := 10) T_ok mixed noCalls_ok Tryz.func82 rfl (by decide) (by kernel_rfl) (by kernel_rfl) (of_eq (B := LRuleP Tryz.prog Tryz.f82.ntmps (loopAt ((Tryz.f82.body).getD .skip) 2) (lp_ridxLoop l s) ∧ True) (by kernel_rfl) ⟨ridxLoop_rule l s hpre, trivial⟩) (by first | exact ⟨busesD_nl l, trivial, trivial⟩ | trivial) (by first | exact ⟨busesD_nl l, trivial, trivial⟩ | trivial) ?_
  refine of_eq (B := letI z0 := (D.v (Value.int IntKind.i64 (idxS l s))); letI z1 := (D.v (Value.int IntKind.i64 (0 : Int))); letI z2 := (D.ro (List.length l) (busesD l)); letI z3 := ([] : List (Option Blk)); letI z4 := (D.v (Value.string s)); (True ∧ (True ∧ ((((0 : Nat) ≤ (List.length l)) ∧ (∀ (j : Nat), ((j < (0 : Nat)) → ((sE (List.getD l j (Inhabited.default)) s) = Bool.false)))) ∧ (((Bool.true = Bool.true) ∧ ((z3 = z3) ∧ ((True ∧ (z2 = z2)) ∧ ((True ∧ (z4 = z4)) ∧ ((True ∧ (z1 = z1)) ∧ True))))) ∧ ((Unit → (((idxS l s) = (-(1 : Int))) → (True ∧ (True ∧ (True ∧ ((D.v (Value.int IntKind.i64 (-(1 : Int)))) = z0)))))) ∧ (∀ (r : Nat), (((idxS l s) = ((r : Nat) : Int)) → (True ∧ (True ∧ ((D.v (Value.int IntKind.i64 ((r : Nat) : Int))) = z0))))))))))) (by kernel_rfl) ?_
  simp only [true_and, and_true, and_self, IsInt_lit, IsBool_lit, IsStr_lit, IsSl_lit, cellN_lit, cellL_lit, Bool.not_eq_true', Bool.not_eq_false', Bool.not_true, Bool.not_false, Int.reduceLE, Int.reduceLT, Int.reduceNeg, Nat.le_refl, Int.le_refl, Nat.reduceLT, Nat.reduceLeDiff, Nat.reduceEqDiff, D.v.injEq, D.tup.injEq, D.agg.injEq, D.ro.injEq, List.cons.injEq, Value.int.injEq, Value.bool.injEq, pcond_true, pcond_false, NamelessL, Nameless, Nat.reduceMul, Nat.reduceAdd, Nat.zero_add, Int.toNat_natCast]
  exact ⟨⟨Nat.zero_le _, fun j h => absurd h (Nat.not_lt_zero _)⟩, fun _ h => h.symm, fun _ h => h.symm⟩
def ent_ridx : Ent := fun ds => match ds with
  | [.ro n xs, .v (.string s)] => some (.v (.int .i64 (idxS (unBus xs) s)), BusOk n xs)
  | _ => none
theorem ent_ridx_ok : EntOk Tryz.prog 82 ent_ridx := by
  intro ds d c hd hc; unfold ent_ridx at hd; split at hd
  · rename_i n xs s
    obtain ⟨rfl, rfl⟩ := pair_inj hd
    obtain ⟨⟨h1, h2⟩, h3⟩ := hc
    generalize unBus xs = a at *
    subst h1; subst h2
    exact ridx_pure a s h3
  · cases hd
def nmdS (l : List ByteArray) (s : ByteArray) : Int := bif nameS s then (bif hasN l s then 8 else 0) else 7
theorem rnamed_pure (l : List ByteArray) (s : ByteArray) (hpre : l.length ≤ maxLen ∧ s.size ≤ maxLen) : PureJ Tryz.prog 38 [.ro l.length (busesD l), .v (.string s)] (.v (.int .i64 (nmdS l s))) := by
  refine pureJ_of_vcx (call := (addPure 37 ent_rname (addPure 82 ent_ridx noCalls))) (lp := fun _ => none) (N := 10) T_ok mixed (addPure_ok ent_rname_ok (addPure_ok ent_ridx_ok noCalls_ok)) Tryz.func38 rfl (by decide) (by kernel_rfl) (by kernel_rfl) (LpAll.none _) (by first | exact ⟨busesD_nl l, trivial, trivial⟩ | trivial) (by first | exact ⟨busesD_nl l, trivial, trivial⟩ | trivial) ?_
  refine of_eq (B := letI z0 := (D.v (Value.int IntKind.i64 (nmdS l s))); (True ∧ (True ∧ (((ByteArray.size s) ≤ (9223372036854775807 : Nat)) ∧ (True ∧ (pcond (!(nameS s)) (True ∧ (True ∧ (True ∧ ((D.v (Value.int IntKind.i64 (7 : Int))) = z0)))) (True ∧ (True ∧ ((BusOk (List.length l) (busesD l)) ∧ (True ∧ (pcond (Decidable.decide ((0 : Int) ≤ (idxS (unBus (busesD l)) s))) (True ∧ (True ∧ (True ∧ ((D.v (Value.int IntKind.i64 (8 : Int))) = z0)))) (True ∧ (True ∧ (True ∧ ((D.v (Value.int IntKind.i64 (0 : Int))) = z0))))))))))))))) (by kernel_rfl) ?_
  simp only [true_and, and_true, and_self, IsInt_lit, IsBool_lit, IsStr_lit, IsSl_lit, cellN_lit, cellL_lit, Bool.not_eq_true', Bool.not_eq_false', Bool.not_true, Bool.not_false, Int.reduceLE, Int.reduceLT, Int.reduceNeg, Nat.le_refl, Int.le_refl, Nat.reduceLT, Nat.reduceLeDiff, Nat.reduceEqDiff, D.v.injEq, D.tup.injEq, D.agg.injEq, D.ro.injEq, List.cons.injEq, Value.int.injEq, Value.bool.injEq, pcond_true, pcond_false, NamelessL, Nameless, Nat.reduceMul, Nat.reduceAdd, Nat.zero_add, Int.toNat_natCast, BusOk_lit, unBus_D]
  refine ⟨hpre.2, ?_⟩
  rw [idxS_nonneg]
  unfold nmdS
  refine pcond_intro (fun h => by rw [Bool.not_eq_true'] at h; rw [h]; rfl) (fun h => ⟨hpre.1, ?_⟩)
  rw [Bool.not_eq_false'] at h; rw [h]
  exact pcond_intro (fun h => by rw [h]; rfl) (fun h => by rw [h]; rfl)
def ent_rnamed : Ent := fun ds => match ds with
  | [.ro n xs, .v (.string s)] => some (.v (.int .i64 (nmdS (unBus xs) s)), BusOk n xs ∧ s.size ≤ maxLen)
  | _ => none
theorem ent_rnamed_ok : EntOk Tryz.prog 38 ent_rnamed := by
  intro ds d c hd hc; unfold ent_rnamed at hd; split at hd
  · rename_i n xs s
    obtain ⟨rfl, rfl⟩ := pair_inj hd
    obtain ⟨⟨⟨h1, h2⟩, h3⟩, h4⟩ := hc
    generalize unBus xs = a at *
    subst h1; subst h2
    exact rnamed_pure a s ⟨h3, h4⟩
  · cases hd
end Go.Proofs.YtfleadelfklenaaGreatDoor
end
section
namespace Go.Proofs.YtfleadelfklenaaGreatDoor
open Go.VD
set_option linter.unusedVariables false
set_option linter.unusedSimpArgs false
set_option maxRecDepth 100000
def firstE (f : Nat → Int) : Nat → Int
  | 0 => 0
  | n + 1 => bif firstE f n == 0 then f n else firstE f n
theorem firstE_zero {f : Nat → Int} : ∀ {n : Nat}, (∀ i, i < n → f i = 0) → firstE f n = 0
  | 0, _ => rfl
  | n + 1, h => by
    have := firstE_zero (n := n) fun i hi => h i (by omega)
    simp only [firstE, this, beq_self_eq_true, cond_true]; exact h n (by omega)
theorem firstE_at {f : Nat → Int} {i : Nat} : ∀ {n : Nat}, i < n → (∀ j, j < i → f j = 0) → f i ≠ 0 → firstE f n = f i
  | 0, h, _, _ => absurd h (Nat.not_lt_zero _)
  | n + 1, h, hj, hi => by
    simp only [firstE]
    rcases Nat.lt_or_ge i n with h1 | h1
    · rw [firstE_at h1 hj hi, beq_false_of_ne hi]; rfl
    · have e : i = n := by omega
      subst e
      rw [firstE_zero hj]; rfl
def orE (a b : Int) : Int := bif a == 0 then b else a
def nm1 (s : Stn) (b l : Nat) : List ByteArray := s.bu.take b ++ (s.li.take l).map Lin.n
def nm2 (s : Stn) (b l g : Nat) : List ByteArray := nm1 s b l ++ (s.so.take g).map Src.n
def nm3 (s : Stn) (b l g q : Nat) : List ByteArray := nm2 s b l g ++ (s.ba.take q).map Bay.n
theorem busesD_app (a b : List ByteArray) : busesD (a ++ b) = busesD a ++ busesD b := by simp [busesD]
theorem take_next {α β : Type} [Inhabited α] (l : List α) (f : α → β) (i : Nat) (h : i < l.length) : (l.take (i + 1)).map f = (l.take i).map f ++ [f (l.getD i default)] := by
  rw [List.take_add_one, List.map_append, List.getElem?_eq_getElem h]
  simp [List.getD_eq_getElem?_getD, List.getElem?_eq_getElem h]
def fewS (s : Stn) : Prop := s.bu.length ≤ 1000 ∧ s.li.length ≤ 1000 ∧ s.so.length ≤ 1000 ∧ s.ba.length ≤ 1000
theorem nm1_len (s : Stn) (b l : Nat) : (nm1 s b l).length ≤ s.bu.length + s.li.length := by
  unfold nm1; rw [List.length_append, List.length_map, List.length_take, List.length_take]; omega
theorem nm2_len (s : Stn) (b l g : Nat) : (nm2 s b l g).length ≤ s.bu.length + s.li.length + s.so.length := by
  unfold nm2; have := nm1_len s b l; rw [List.length_append, List.length_map, List.length_take]; omega
theorem nm3_len (s : Stn) (b l g q : Nat) : (nm3 s b l g q).length ≤ s.bu.length + s.li.length + s.so.length + s.ba.length := by
  unfold nm3; have := nm2_len s b l g; rw [List.length_append, List.length_map, List.length_take]; omega
theorem nm1_succ (s : Stn) (b : Nat) {i : Nat} (h : i < s.li.length) : nm1 s b (i + 1) = nm1 s b i ++ [(s.li.getD i default).n] := by
  unfold nm1; rw [take_next _ _ _ h, List.append_assoc]
theorem nm2_succ (s : Stn) (b l : Nat) {i : Nat} (h : i < s.so.length) : nm2 s b l (i + 1) = nm2 s b l i ++ [(s.so.getD i default).n] := by
  unfold nm2; rw [take_next _ _ _ h, List.append_assoc]
theorem nm3_succ (s : Stn) (b l g : Nat) {i : Nat} (h : i < s.ba.length) : nm3 s b l g (i + 1) = nm3 s b l g i ++ [(s.ba.getD i default).n] := by
  unfold nm3; rw [take_next _ _ _ h, List.append_assoc]
theorem nm1_zero (s : Stn) (b : Nat) : nm1 s b 0 = s.bu.take b := by simp [nm1]
theorem nm2_zero (s : Stn) (b l : Nat) : nm2 s b l 0 = nm1 s b l := by simp [nm2]
theorem nm3_zero (s : Stn) (b l g : Nat) : nm3 s b l g 0 = nm2 s b l g := by simp [nm3]
theorem busesD_take (l : List ByteArray) (b : Nat) : (busesD l).take b = busesD (l.take b) := by simp [busesD, List.map_take]
def lp_rnmL (s : Stn) (b l g q : Nat) : LoopO := loopRule (α := Nat) (β := Unit) [some 0, some 2] (fun i => i ≤ l) (fun i => [(2, d_i (l : Int)), (3, d_i (g : Int)), (4, d_i (q : Int)), (5, .ptr 0 0), (11, .sl 1 0 (nm1 s b i).length (.toEnd 1)), (12, d_i (i : Int))]) (fun i => [some ⟨27, d_stnL s, true⟩, some ⟨9, busesD (nm1 s b i), false⟩]) (0) (fun _ => True) (fun _ => (.exit 0, [(3, d_i (g : Int)), (4, d_i (q : Int)), (5, .ptr 0 0), (11, .sl 1 0 (nm1 s b l).length (.toEnd 1))], [some ⟨27, d_stnL s, true⟩, some ⟨9, busesD (nm1 s b l), false⟩]))
theorem rnmL_rule (s : Stn) (b l g q : Nat) (hpre : okStn s ∧ fewS s ∧ b ≤ s.bu.length ∧ l ≤ s.li.length ∧ g ≤ s.so.length ∧ q ≤ s.ba.length) : LRuleP Tryz.prog Tryz.f39.ntmps (loopAt ((Tryz.f39.body).getD .skip) 3) (lp_rnmL s b l g q) := by
  refine lrule_of (α := Nat) (β := Unit) (call := noCalls) (lp := fun _ => none) (N := 10) T_ok mixed noCalls_ok (fun i => l - i) (by kernel_rfl) (LpAllP.none _) ?_
  intro x hJ
  refine of_eq (B := letI z13 := (Exit.exit (0 : Nat)); letI z10 := (Prod.mk (3 : Nat) (d_i ((g : Nat) : Int))); letI z11 := (Prod.mk (4 : Nat) (d_i ((q : Nat) : Int))); letI z3 := (Prod.mk (5 : Nat) (D.ptr (0 : Nat) (0 : Nat))); letI z8 := (Cap.toEnd (1 : Nat)); letI z9 := (Option.some (Blk.mk (27 : TypeId) (d_stnL s) Bool.true)); letI z0 := (Prod.mk z13 (Prod.mk [z10, z11, z3, (Prod.mk (11 : Nat) (D.sl (1 : Nat) (0 : Nat) (List.length (nm1 s b l)) z8))] [z9, (Option.some (Blk.mk (9 : TypeId) (busesD (nm1 s b l)) Bool.false))])); letI z20 := (List.length (Stn.li s)); letI z15 := (linesD (Stn.li s)); letI z1 := (Option.some (Blk.mk (27 : Nat) [(D.v (Value.string (Stn.n s))), (D.ro (List.length (Stn.bu s)) (busesD (Stn.bu s))), (D.ro z20 z15), (D.ro (List.length (Stn.so s)) (srcsD (Stn.so s))), (D.ro (List.length (Stn.ba s)) (baysD (Stn.ba s)))] Bool.true)); letI z5 := ((x : Nat) : Int); letI z12 := (((Int.toNat z5) * (5 : Nat)) + (0 : Nat)); letI z2 := (List.getD z15 z12 (Inhabited.default)); letI z4 := (List.length (nm1 s b x)); letI z6 := (Prod.mk (3 : Nat) (D.v (Value.int IntKind.i64 ((g : Nat) : Int)))); letI z7 := (Prod.mk (4 : Nat) (D.v (Value.int IntKind.i64 ((q : Nat) : Int)))); letI z14 := (busesD (nm1 s b x)); letI z16 := (D.v (Value.string (cellStr z2))); letI z17 := ((l : Nat) : Int); letI z18 := (z4 + (1 : Nat)); letI z19 := (9223372036854775807 : Nat); letI z21 := (List (Option Nat)); (True ∧ (True ∧ (True ∧ (pcond (Decidable.decide (z5 < z17)) (True ∧ (True ∧ (((2 : Nat) < (5 : Nat)) ∧ (True ∧ ((((0 : Int) ≤ z5) ∧ (z5 < ((z20 : Nat) : Int))) ∧ (True ∧ (((z12 < (List.length z15)) ∧ (IsStr z2)) ∧ ((((1 : Nat) ≤ (16777216 : Nat)) ∧ ((1 : Nat) ≤ z19)) ∧ ((((1 : Nat) ≤ (1 : Nat)) ∧ (((22 : Nat) = (22 : Nat)) ∧ (((1 : Nat) = (1 : Nat)) ∧ (((9 : Nat) = (9 : Nat)) ∧ (((z4 * (1 : Nat)) ≤ (List.length z14)) ∧ (((0 : Nat) < (1 : Nat)) ∧ ((z18 ≤ z19) ∧ ((z18 * (16 : Nat)) ≤ (140737488355328 : Nat))))))))) ∧ (True ∧ (True ∧ (True ∧ (True ∧ (∃ (y : Nat), (∃ (kp : z21), (((l - y) < (l - x)) ∧ ((y ≤ l) ∧ (viewAll kp [(Prod.mk (2 : Nat) (D.v (Value.int IntKind.i64 z17))), z6, z7, z3, (Prod.mk (11 : Nat) (D.sl (3 : Nat) (0 : Nat) z18 z8)), (Prod.mk (12 : Nat) (D.v (Value.int IntKind.i64 (IntKind.wrap IntKind.i64 (z5 + (1 : Int))))))] [z1, (Option.none), (Option.some (Blk.mk (9 : Nat) [z16] Bool.true)), (Option.some (Blk.mk (9 : Nat) ((List.take (z4 * (1 : Nat)) z14) ++ [z16]) Bool.false))] [(Prod.mk (2 : Nat) (d_i z17)), z10, z11, z3, (Prod.mk (11 : Nat) (D.sl (1 : Nat) (0 : Nat) (List.length (nm1 s b y)) z8)), (Prod.mk (12 : Nat) (d_i ((y : Nat) : Int)))] [z9, (Option.some (Blk.mk (9 : TypeId) (busesD (nm1 s b y)) Bool.false))])))))))))))))))))) (∃ (r : Unit), (∃ (kp : z21), (True ∧ ((z13 = z13) ∧ (viewAll kp [z6, z7, z3, (Prod.mk (11 : Nat) (D.sl (1 : Nat) (0 : Nat) z4 z8))] [z1, (Option.some (Blk.mk (9 : Nat) z14 Bool.false))] (Prod.fst (Prod.snd ((fun (x_1 : Unit) => z0) r))) (Prod.snd (Prod.snd ((fun (x_1 : Unit) => z0) r))))))))))))) (by kernel_rfl) ?_
  obtain ⟨ok, ⟨f1, f2, f3, f4⟩, hb, hl, hg, hq⟩ := hpre
  simp only [true_and, and_true, and_self, IsInt_lit, IsBool_lit, IsStr_lit, IsSl_lit, cellN_lit, cellL_lit, Bool.not_eq_true', Bool.not_eq_false', Bool.not_true, Bool.not_false, Int.reduceLE, Int.reduceLT, Int.reduceNeg, Nat.le_refl, Int.le_refl, Nat.reduceLT, Nat.reduceLeDiff, Nat.reduceEqDiff, D.v.injEq, D.tup.injEq, D.agg.injEq, D.ro.injEq, List.cons.injEq, Value.int.injEq, Value.bool.injEq, pcond_true, pcond_false, NamelessL, Nameless, Nat.reduceMul, Nat.reduceAdd, Nat.zero_add, Int.toNat_natCast]
  have hx : x ≤ l := hJ
  have hln := nm1_len s b x
  have hbl := busesD_length (nm1 s b x)
  refine pcond_intro (fun h => ?_) (fun h => ?_)
  · simp only [decide_eq_true_eq] at h
    have hxa : x < s.li.length := by omega
    have ga := linesD_get s.li x hxa
    have ha := linesD_length s.li
    simp only [Nat.add_zero, Nat.mul_one, ga, cellStr_lit, IsStr_lit, wrap_succ hxa (show s.li.length ≤ 9223372036854775807 by omega), true_and, and_true]
    rw [List.take_of_length_le (by omega), show busesD (nm1 s b x) ++ [D.v (Value.string (s.li.getD x default).n)] = busesD (nm1 s b (x + 1)) by rw [nm1_succ s b hxa, busesD_app]; rfl, show (nm1 s b x).length + 1 = (nm1 s b (x + 1)).length by rw [nm1_succ s b hxa]; simp]
    refine ⟨⟨by omega, by omega⟩, by omega, ⟨by omega, by omega, ?_⟩, x + 1, [some 0, some 3], by omega, by omega, ?_⟩
    · have := nm1_len s b (x + 1)
      omega
    · refine of_eq (B := letI z12 := (D.v (Value.string (Stn.n s))); letI z5 := (D.ro (List.length (Stn.bu s)) (busesD (Stn.bu s))); letI z6 := (D.ro (List.length (Stn.li s)) (linesD (Stn.li s))); letI z7 := (D.ro (List.length (Stn.so s)) (srcsD (Stn.so s))); letI z8 := (D.ro (List.length (Stn.ba s)) (baysD (Stn.ba s))); letI z0 := (Option.some (Blk.mk (27 : Nat) [z12, z5, z6, z7, z8] Bool.true)); letI z1 := (nm1 s b (x + (1 : Nat))); letI z2 := (D.sl (1 : Nat) (0 : Nat) (List.length z1) (Cap.toEnd (1 : Nat))); letI z3 := (D.v (Value.int IntKind.i64 (((x + (1 : Nat)) : Nat) : Int))); letI z4 := (Option.some (Blk.mk (9 : Nat) (busesD z1) Bool.false)); letI z9 := (D.v (Value.int IntKind.i64 ((l : Nat) : Int))); letI z10 := (D.v (Value.int IntKind.i64 ((g : Nat) : Int))); letI z11 := (D.v (Value.int IntKind.i64 ((q : Nat) : Int))); letI z13 := (D.ptr (0 : Nat) (0 : Nat)); letI z14 := ([] : List (Option Blk)); ((Bool.true = Bool.true) ∧ ((((z0 = z0) ∧ (NamelessL [z12, z5, z6, z7, z8])) ∧ (((z4 = z4) ∧ (NamelessL (busesD z1))) ∧ (z14 = z14))) ∧ ((True ∧ (z9 = z9)) ∧ ((True ∧ (z10 = z10)) ∧ ((True ∧ (z11 = z11)) ∧ ((True ∧ (z13 = z13)) ∧ ((True ∧ (z2 = z2)) ∧ ((True ∧ (z3 = z3)) ∧ True))))))))) (by kernel_rfl) ?_
      simp [NamelessL, Nameless, busesD_nl, linesD_nl, srcsD_nl, baysD_nl]
  · simp only [decide_eq_false_iff_not] at h
    have hxe : x = l := by omega
    subst hxe
    refine ⟨(), [some 0, some 1], ?_⟩
    refine of_eq (B := letI z9 := (D.v (Value.string (Stn.n s))); letI z3 := (D.ro (List.length (Stn.bu s)) (busesD (Stn.bu s))); letI z4 := (D.ro (List.length (Stn.li s)) (linesD (Stn.li s))); letI z5 := (D.ro (List.length (Stn.so s)) (srcsD (Stn.so s))); letI z6 := (D.ro (List.length (Stn.ba s)) (baysD (Stn.ba s))); letI z0 := (Option.some (Blk.mk (27 : Nat) [z9, z3, z4, z5, z6] Bool.true)); letI z1 := (D.sl (1 : Nat) (0 : Nat) (List.length (nm1 s b x)) (Cap.toEnd (1 : Nat))); letI z12 := (busesD (nm1 s b x)); letI z2 := (Option.some (Blk.mk (9 : Nat) z12 Bool.false)); letI z7 := (D.v (Value.int IntKind.i64 ((g : Nat) : Int))); letI z8 := (D.v (Value.int IntKind.i64 ((q : Nat) : Int))); letI z10 := (D.ptr (0 : Nat) (0 : Nat)); letI z11 := ([] : List (Option Blk)); ((Bool.true = Bool.true) ∧ ((((z0 = z0) ∧ (NamelessL [z9, z3, z4, z5, z6])) ∧ (((z2 = z2) ∧ (NamelessL z12)) ∧ (z11 = z11))) ∧ ((True ∧ (z7 = z7)) ∧ ((True ∧ (z8 = z8)) ∧ ((True ∧ (z10 = z10)) ∧ ((True ∧ (z1 = z1)) ∧ True))))))) (by kernel_rfl) ?_
    simp [NamelessL, Nameless, busesD_nl, linesD_nl, srcsD_nl, baysD_nl]
def lp_rnmG (s : Stn) (b l g q : Nat) : LoopO := loopRule (α := Nat) (β := Unit) [some 0, some 1] (fun i => i ≤ g) (fun i => [(3, d_i (g : Int)), (4, d_i (q : Int)), (5, .ptr 0 0), (11, .sl 1 0 (nm2 s b l i).length (.toEnd 1)), (13, d_i (i : Int))]) (fun i => [some ⟨27, d_stnL s, true⟩, some ⟨9, busesD (nm2 s b l i), false⟩]) (0) (fun _ => True) (fun _ => (.exit 2, [(4, d_i (q : Int)), (5, .ptr 0 0), (11, .sl 1 0 (nm2 s b l g).length (.toEnd 1))], [some ⟨27, d_stnL s, true⟩, some ⟨9, busesD (nm2 s b l g), false⟩]))
theorem rnmG_rule (s : Stn) (b l g q : Nat) (hpre : okStn s ∧ fewS s ∧ b ≤ s.bu.length ∧ l ≤ s.li.length ∧ g ≤ s.so.length ∧ q ≤ s.ba.length) : LRuleP Tryz.prog Tryz.f39.ntmps (loopAt ((Tryz.f39.body).getD .skip) 7) (lp_rnmG s b l g q) := by
  refine lrule_of (α := Nat) (β := Unit) (call := noCalls) (lp := fun _ => none) (N := 10) T_ok mixed noCalls_ok (fun i => g - i) (by kernel_rfl) (LpAllP.none _) ?_
  intro x hJ
  refine of_eq (B := letI z12 := (Exit.exit (2 : Nat)); letI z9 := (Prod.mk (4 : Nat) (d_i ((q : Nat) : Int))); letI z3 := (Prod.mk (5 : Nat) (D.ptr (0 : Nat) (0 : Nat))); letI z7 := (Cap.toEnd (1 : Nat)); letI z8 := (Option.some (Blk.mk (27 : TypeId) (d_stnL s) Bool.true)); letI z0 := (Prod.mk z12 (Prod.mk [z9, z3, (Prod.mk (11 : Nat) (D.sl (1 : Nat) (0 : Nat) (List.length (nm2 s b l g)) z7))] [z8, (Option.some (Blk.mk (9 : TypeId) (busesD (nm2 s b l g)) Bool.false))])); letI z18 := (List.length (Stn.so s)); letI z13 := (srcsD (Stn.so s)); letI z1 := (Option.some (Blk.mk (27 : Nat) [(D.v (Value.string (Stn.n s))), (D.ro (List.length (Stn.bu s)) (busesD (Stn.bu s))), (D.ro (List.length (Stn.li s)) (linesD (Stn.li s))), (D.ro z18 z13), (D.ro (List.length (Stn.ba s)) (baysD (Stn.ba s)))] Bool.true)); letI z5 := ((x : Nat) : Int); letI z10 := (((Int.toNat z5) * (6 : Nat)) + (0 : Nat)); letI z2 := (List.getD z13 z10 (Inhabited.default)); letI z4 := (List.length (nm2 s b l x)); letI z6 := (Prod.mk (4 : Nat) (D.v (Value.int IntKind.i64 ((q : Nat) : Int)))); letI z11 := (busesD (nm2 s b l x)); letI z14 := (D.v (Value.string (cellStr z2))); letI z15 := ((g : Nat) : Int); letI z16 := (z4 + (1 : Nat)); letI z17 := (9223372036854775807 : Nat); letI z19 := (List (Option Nat)); (True ∧ (True ∧ (True ∧ (pcond (Decidable.decide (z5 < z15)) (True ∧ (True ∧ (((3 : Nat) < (5 : Nat)) ∧ (True ∧ ((((0 : Int) ≤ z5) ∧ (z5 < ((z18 : Nat) : Int))) ∧ (True ∧ (((z10 < (List.length z13)) ∧ (IsStr z2)) ∧ ((((1 : Nat) ≤ (16777216 : Nat)) ∧ ((1 : Nat) ≤ z17)) ∧ ((((1 : Nat) ≤ (1 : Nat)) ∧ (((22 : Nat) = (22 : Nat)) ∧ (((1 : Nat) = (1 : Nat)) ∧ (((9 : Nat) = (9 : Nat)) ∧ (((z4 * (1 : Nat)) ≤ (List.length z11)) ∧ (((0 : Nat) < (1 : Nat)) ∧ ((z16 ≤ z17) ∧ ((z16 * (16 : Nat)) ≤ (140737488355328 : Nat))))))))) ∧ (True ∧ (True ∧ (True ∧ (True ∧ (∃ (y : Nat), (∃ (kp : z19), (((g - y) < (g - x)) ∧ ((y ≤ g) ∧ (viewAll kp [(Prod.mk (3 : Nat) (D.v (Value.int IntKind.i64 z15))), z6, z3, (Prod.mk (11 : Nat) (D.sl (3 : Nat) (0 : Nat) z16 z7)), (Prod.mk (13 : Nat) (D.v (Value.int IntKind.i64 (IntKind.wrap IntKind.i64 (z5 + (1 : Int))))))] [z1, (Option.none), (Option.some (Blk.mk (9 : Nat) [z14] Bool.true)), (Option.some (Blk.mk (9 : Nat) ((List.take (z4 * (1 : Nat)) z11) ++ [z14]) Bool.false))] [(Prod.mk (3 : Nat) (d_i z15)), z9, z3, (Prod.mk (11 : Nat) (D.sl (1 : Nat) (0 : Nat) (List.length (nm2 s b l y)) z7)), (Prod.mk (13 : Nat) (d_i ((y : Nat) : Int)))] [z8, (Option.some (Blk.mk (9 : TypeId) (busesD (nm2 s b l y)) Bool.false))])))))))))))))))))) (∃ (r : Unit), (∃ (kp : z19), (True ∧ ((z12 = z12) ∧ (viewAll kp [z6, z3, (Prod.mk (11 : Nat) (D.sl (1 : Nat) (0 : Nat) z4 z7))] [z1, (Option.some (Blk.mk (9 : Nat) z11 Bool.false))] (Prod.fst (Prod.snd ((fun (x_1 : Unit) => z0) r))) (Prod.snd (Prod.snd ((fun (x_1 : Unit) => z0) r))))))))))))) (by kernel_rfl) ?_
  obtain ⟨ok, ⟨f1, f2, f3, f4⟩, hb, hl, hg, hq⟩ := hpre
  simp only [true_and, and_true, and_self, IsInt_lit, IsBool_lit, IsStr_lit, IsSl_lit, cellN_lit, cellL_lit, Bool.not_eq_true', Bool.not_eq_false', Bool.not_true, Bool.not_false, Int.reduceLE, Int.reduceLT, Int.reduceNeg, Nat.le_refl, Int.le_refl, Nat.reduceLT, Nat.reduceLeDiff, Nat.reduceEqDiff, D.v.injEq, D.tup.injEq, D.agg.injEq, D.ro.injEq, List.cons.injEq, Value.int.injEq, Value.bool.injEq, pcond_true, pcond_false, NamelessL, Nameless, Nat.reduceMul, Nat.reduceAdd, Nat.zero_add, Int.toNat_natCast]
  have hx : x ≤ g := hJ
  have hln := nm2_len s b l x
  have hbl := busesD_length (nm2 s b l x)
  refine pcond_intro (fun h => ?_) (fun h => ?_)
  · simp only [decide_eq_true_eq] at h
    have hxa : x < s.so.length := by omega
    have ga := srcsD_get s.so x hxa
    have ha := srcsD_length s.so
    simp only [Nat.add_zero, Nat.mul_one, ga, cellStr_lit, IsStr_lit, wrap_succ hxa (show s.so.length ≤ 9223372036854775807 by omega), true_and, and_true]
    rw [List.take_of_length_le (by omega), show busesD (nm2 s b l x) ++ [D.v (Value.string (s.so.getD x default).n)] = busesD (nm2 s b l (x + 1)) by rw [nm2_succ s b l hxa, busesD_app]; rfl, show (nm2 s b l x).length + 1 = (nm2 s b l (x + 1)).length by rw [nm2_succ s b l hxa]; simp]
    refine ⟨⟨by omega, by omega⟩, by omega, ⟨by omega, by omega, ?_⟩, x + 1, [some 0, some 3], by omega, by omega, ?_⟩
    · have := nm2_len s b l (x + 1)
      omega
    · refine of_eq (B := letI z11 := (D.v (Value.string (Stn.n s))); letI z5 := (D.ro (List.length (Stn.bu s)) (busesD (Stn.bu s))); letI z6 := (D.ro (List.length (Stn.li s)) (linesD (Stn.li s))); letI z7 := (D.ro (List.length (Stn.so s)) (srcsD (Stn.so s))); letI z8 := (D.ro (List.length (Stn.ba s)) (baysD (Stn.ba s))); letI z0 := (Option.some (Blk.mk (27 : Nat) [z11, z5, z6, z7, z8] Bool.true)); letI z1 := (nm2 s b l (x + (1 : Nat))); letI z2 := (D.sl (1 : Nat) (0 : Nat) (List.length z1) (Cap.toEnd (1 : Nat))); letI z3 := (D.v (Value.int IntKind.i64 (((x + (1 : Nat)) : Nat) : Int))); letI z4 := (Option.some (Blk.mk (9 : Nat) (busesD z1) Bool.false)); letI z9 := (D.v (Value.int IntKind.i64 ((g : Nat) : Int))); letI z10 := (D.v (Value.int IntKind.i64 ((q : Nat) : Int))); letI z12 := (D.ptr (0 : Nat) (0 : Nat)); letI z13 := ([] : List (Option Blk)); ((Bool.true = Bool.true) ∧ ((((z0 = z0) ∧ (NamelessL [z11, z5, z6, z7, z8])) ∧ (((z4 = z4) ∧ (NamelessL (busesD z1))) ∧ (z13 = z13))) ∧ ((True ∧ (z9 = z9)) ∧ ((True ∧ (z10 = z10)) ∧ ((True ∧ (z12 = z12)) ∧ ((True ∧ (z2 = z2)) ∧ ((True ∧ (z3 = z3)) ∧ True)))))))) (by kernel_rfl) ?_
      simp [NamelessL, Nameless, busesD_nl, linesD_nl, srcsD_nl, baysD_nl]
  · simp only [decide_eq_false_iff_not] at h
    have hxe : x = g := by omega
    subst hxe
    refine ⟨(), [some 0, some 1], ?_⟩
    refine of_eq (B := letI z8 := (D.v (Value.string (Stn.n s))); letI z3 := (D.ro (List.length (Stn.bu s)) (busesD (Stn.bu s))); letI z4 := (D.ro (List.length (Stn.li s)) (linesD (Stn.li s))); letI z5 := (D.ro (List.length (Stn.so s)) (srcsD (Stn.so s))); letI z6 := (D.ro (List.length (Stn.ba s)) (baysD (Stn.ba s))); letI z0 := (Option.some (Blk.mk (27 : Nat) [z8, z3, z4, z5, z6] Bool.true)); letI z1 := (D.sl (1 : Nat) (0 : Nat) (List.length (nm2 s b l x)) (Cap.toEnd (1 : Nat))); letI z11 := (busesD (nm2 s b l x)); letI z2 := (Option.some (Blk.mk (9 : Nat) z11 Bool.false)); letI z7 := (D.v (Value.int IntKind.i64 ((q : Nat) : Int))); letI z9 := (D.ptr (0 : Nat) (0 : Nat)); letI z10 := ([] : List (Option Blk)); ((Bool.true = Bool.true) ∧ ((((z0 = z0) ∧ (NamelessL [z8, z3, z4, z5, z6])) ∧ (((z2 = z2) ∧ (NamelessL z11)) ∧ (z10 = z10))) ∧ ((True ∧ (z7 = z7)) ∧ ((True ∧ (z9 = z9)) ∧ ((True ∧ (z1 = z1)) ∧ True)))))) (by kernel_rfl) ?_
    simp [NamelessL, Nameless, busesD_nl, linesD_nl, srcsD_nl, baysD_nl]
def lp_rnmQ (s : Stn) (b l g q : Nat) : LoopO := loopRule (α := Nat) (β := Unit) [some 0, some 1] (fun i => i ≤ q) (fun i => [(4, d_i (q : Int)), (5, .ptr 0 0), (11, .sl 1 0 (nm3 s b l g i).length (.toEnd 1)), (14, d_i (i : Int))]) (fun i => [some ⟨27, d_stnL s, true⟩, some ⟨9, busesD (nm3 s b l g i), false⟩]) (0) (fun _ => True) (fun _ => (.exit 4, [(11, .sl 0 0 (nm3 s b l g q).length (.toEnd 1))], [some ⟨9, busesD (nm3 s b l g q), false⟩]))
theorem rnmQ_rule (s : Stn) (b l g q : Nat) (hpre : okStn s ∧ fewS s ∧ b ≤ s.bu.length ∧ l ≤ s.li.length ∧ g ≤ s.so.length ∧ q ≤ s.ba.length) : LRuleP Tryz.prog Tryz.f39.ntmps (loopAt ((Tryz.f39.body).getD .skip) 11) (lp_rnmQ s b l g q) := by
  refine lrule_of (α := Nat) (β := Unit) (call := noCalls) (lp := fun _ => none) (N := 10) T_ok mixed noCalls_ok (fun i => q - i) (by kernel_rfl) (LpAllP.none _) ?_
  intro x hJ
  refine of_eq (B := letI z15 := (List.length (Stn.ba s)); letI z10 := (baysD (Stn.ba s)); letI z0 := (Option.some (Blk.mk (27 : Nat) [(D.v (Value.string (Stn.n s))), (D.ro (List.length (Stn.bu s)) (busesD (Stn.bu s))), (D.ro (List.length (Stn.li s)) (linesD (Stn.li s))), (D.ro (List.length (Stn.so s)) (srcsD (Stn.so s))), (D.ro z15 z10)] Bool.true)); letI z9 := (Exit.exit (4 : Nat)); letI z5 := (Cap.toEnd (1 : Nat)); letI z1 := (Prod.mk z9 (Prod.mk [(Prod.mk (11 : Nat) (D.sl (0 : Nat) (0 : Nat) (List.length (nm3 s b l g q)) z5))] [(Option.some (Blk.mk (9 : TypeId) (busesD (nm3 s b l g q)) Bool.false))])); letI z4 := ((x : Nat) : Int); letI z8 := (((Int.toNat z4) * (12 : Nat)) + (0 : Nat)); letI z2 := (List.getD z10 z8 (Inhabited.default)); letI z3 := (List.length (nm3 s b l g x)); letI z6 := (Prod.mk (5 : Nat) (D.ptr (0 : Nat) (0 : Nat))); letI z7 := (busesD (nm3 s b l g x)); letI z11 := (D.v (Value.string (cellStr z2))); letI z12 := ((q : Nat) : Int); letI z13 := (z3 + (1 : Nat)); letI z14 := (9223372036854775807 : Nat); letI z16 := (List (Option Nat)); (True ∧ (True ∧ (True ∧ (pcond (Decidable.decide (z4 < z12)) (True ∧ (True ∧ (((4 : Nat) < (5 : Nat)) ∧ (True ∧ ((((0 : Int) ≤ z4) ∧ (z4 < ((z15 : Nat) : Int))) ∧ (True ∧ (((z8 < (List.length z10)) ∧ (IsStr z2)) ∧ ((((1 : Nat) ≤ (16777216 : Nat)) ∧ ((1 : Nat) ≤ z14)) ∧ ((((1 : Nat) ≤ (1 : Nat)) ∧ (((22 : Nat) = (22 : Nat)) ∧ (((1 : Nat) = (1 : Nat)) ∧ (((9 : Nat) = (9 : Nat)) ∧ (((z3 * (1 : Nat)) ≤ (List.length z7)) ∧ (((0 : Nat) < (1 : Nat)) ∧ ((z13 ≤ z14) ∧ ((z13 * (16 : Nat)) ≤ (140737488355328 : Nat))))))))) ∧ (True ∧ (True ∧ (True ∧ (True ∧ (∃ (y : Nat), (∃ (kp : z16), (((q - y) < (q - x)) ∧ ((y ≤ q) ∧ (viewAll kp [(Prod.mk (4 : Nat) (D.v (Value.int IntKind.i64 z12))), z6, (Prod.mk (11 : Nat) (D.sl (3 : Nat) (0 : Nat) z13 z5)), (Prod.mk (14 : Nat) (D.v (Value.int IntKind.i64 (IntKind.wrap IntKind.i64 (z4 + (1 : Int))))))] [z0, (Option.none), (Option.some (Blk.mk (9 : Nat) [z11] Bool.true)), (Option.some (Blk.mk (9 : Nat) ((List.take (z3 * (1 : Nat)) z7) ++ [z11]) Bool.false))] [(Prod.mk (4 : Nat) (d_i z12)), z6, (Prod.mk (11 : Nat) (D.sl (1 : Nat) (0 : Nat) (List.length (nm3 s b l g y)) z5)), (Prod.mk (14 : Nat) (d_i ((y : Nat) : Int)))] [(Option.some (Blk.mk (27 : TypeId) (d_stnL s) Bool.true)), (Option.some (Blk.mk (9 : TypeId) (busesD (nm3 s b l g y)) Bool.false))])))))))))))))))))) (∃ (r : Unit), (∃ (kp : z16), (True ∧ ((z9 = z9) ∧ (viewAll kp [(Prod.mk (11 : Nat) (D.sl (1 : Nat) (0 : Nat) z3 z5))] [z0, (Option.some (Blk.mk (9 : Nat) z7 Bool.false))] (Prod.fst (Prod.snd ((fun (x_1 : Unit) => z1) r))) (Prod.snd (Prod.snd ((fun (x_1 : Unit) => z1) r))))))))))))) (by kernel_rfl) ?_
  obtain ⟨ok, ⟨f1, f2, f3, f4⟩, hb, hl, hg, hq⟩ := hpre
  simp only [true_and, and_true, and_self, IsInt_lit, IsBool_lit, IsStr_lit, IsSl_lit, cellN_lit, cellL_lit, Bool.not_eq_true', Bool.not_eq_false', Bool.not_true, Bool.not_false, Int.reduceLE, Int.reduceLT, Int.reduceNeg, Nat.le_refl, Int.le_refl, Nat.reduceLT, Nat.reduceLeDiff, Nat.reduceEqDiff, D.v.injEq, D.tup.injEq, D.agg.injEq, D.ro.injEq, List.cons.injEq, Value.int.injEq, Value.bool.injEq, pcond_true, pcond_false, NamelessL, Nameless, Nat.reduceMul, Nat.reduceAdd, Nat.zero_add, Int.toNat_natCast]
  have hx : x ≤ q := hJ
  have hln := nm3_len s b l g x
  have hbl := busesD_length (nm3 s b l g x)
  refine pcond_intro (fun h => ?_) (fun h => ?_)
  · simp only [decide_eq_true_eq] at h
    have hxa : x < s.ba.length := by omega
    have ga := baysD_get s.ba x hxa
    have ha := baysD_length s.ba
    simp only [Nat.add_zero, Nat.mul_one, ga, cellStr_lit, IsStr_lit, wrap_succ hxa (show s.ba.length ≤ 9223372036854775807 by omega), true_and, and_true]
    rw [List.take_of_length_le (by omega), show busesD (nm3 s b l g x) ++ [D.v (Value.string (s.ba.getD x default).n)] = busesD (nm3 s b l g (x + 1)) by rw [nm3_succ s b l g hxa, busesD_app]; rfl, show (nm3 s b l g x).length + 1 = (nm3 s b l g (x + 1)).length by rw [nm3_succ s b l g hxa]; simp]
    refine ⟨⟨by omega, by omega⟩, by omega, ⟨by omega, by omega, ?_⟩, x + 1, [some 0, some 3], by omega, by omega, ?_⟩
    · have := nm3_len s b l g (x + 1)
      omega
    · refine of_eq (B := letI z10 := (D.v (Value.string (Stn.n s))); letI z5 := (D.ro (List.length (Stn.bu s)) (busesD (Stn.bu s))); letI z6 := (D.ro (List.length (Stn.li s)) (linesD (Stn.li s))); letI z7 := (D.ro (List.length (Stn.so s)) (srcsD (Stn.so s))); letI z8 := (D.ro (List.length (Stn.ba s)) (baysD (Stn.ba s))); letI z0 := (Option.some (Blk.mk (27 : Nat) [z10, z5, z6, z7, z8] Bool.true)); letI z1 := (nm3 s b l g (x + (1 : Nat))); letI z2 := (D.sl (1 : Nat) (0 : Nat) (List.length z1) (Cap.toEnd (1 : Nat))); letI z3 := (D.v (Value.int IntKind.i64 (((x + (1 : Nat)) : Nat) : Int))); letI z4 := (Option.some (Blk.mk (9 : Nat) (busesD z1) Bool.false)); letI z9 := (D.v (Value.int IntKind.i64 ((q : Nat) : Int))); letI z11 := (D.ptr (0 : Nat) (0 : Nat)); letI z12 := ([] : List (Option Blk)); ((Bool.true = Bool.true) ∧ ((((z0 = z0) ∧ (NamelessL [z10, z5, z6, z7, z8])) ∧ (((z4 = z4) ∧ (NamelessL (busesD z1))) ∧ (z12 = z12))) ∧ ((True ∧ (z9 = z9)) ∧ ((True ∧ (z11 = z11)) ∧ ((True ∧ (z2 = z2)) ∧ ((True ∧ (z3 = z3)) ∧ True))))))) (by kernel_rfl) ?_
      simp [NamelessL, Nameless, busesD_nl, linesD_nl, srcsD_nl, baysD_nl]
  · simp only [decide_eq_false_iff_not] at h
    have hxe : x = q := by omega
    subst hxe
    refine ⟨(), [some 1], ?_⟩
    refine of_eq (B := letI z2 := nm3 s b l g x; letI z0 := (D.sl (0 : Nat) (0 : Nat) (List.length z2) (Cap.toEnd (1 : Nat))); letI z1 := (Option.some (Blk.mk (9 : Nat) (busesD z2) Bool.false)); letI z3 := ([] : List (Option Blk)); ((Bool.true = Bool.true) ∧ ((((z1 = z1) ∧ (NamelessL (busesD z2))) ∧ (z3 = z3)) ∧ ((True ∧ (z0 = z0)) ∧ True)))) (by kernel_rfl) ?_
    simp [NamelessL, Nameless, busesD_nl, linesD_nl, srcsD_nl, baysD_nl]
theorem rnames_pure (s : Stn) (b l g q : Nat) (hpre : okStn s ∧ fewS s ∧ b ≤ s.bu.length ∧ l ≤ s.li.length ∧ g ≤ s.so.length ∧ q ≤ s.ba.length) : PureJ Tryz.prog 39 [.agg (d_stnL s), .v (.int .i64 (b : Int)), .v (.int .i64 (l : Int)), .v (.int .i64 (g : Int)), .v (.int .i64 (q : Int))] (.ro (nm3 s b l g q).length (busesD (nm3 s b l g q))) := by
  refine pureJ_of_vcp (call := noCalls) (lp := fun reg__ => bif Nat.beq reg__ 3 then some (lp_rnmL s b l g q) else bif Nat.beq reg__ 7 then some (lp_rnmG s b l g q) else bif Nat.beq reg__ 11 then some (lp_rnmQ s b l g q) else none) (N := 10) T_ok mixed noCalls_ok Tryz.func39 rfl (by decide) (by kernel_rfl) (by kernel_rfl) (of_eq (B := letI z0 := ((Tryz.f39.body).getD .skip); LRuleP Tryz.prog Tryz.f39.ntmps (loopAt z0 3) (lp_rnmL s b l g q) ∧ LRuleP Tryz.prog Tryz.f39.ntmps (loopAt z0 7) (lp_rnmG s b l g q) ∧ LRuleP Tryz.prog Tryz.f39.ntmps (loopAt z0 11) (lp_rnmQ s b l g q) ∧ True) (by kernel_rfl) ⟨rnmL_rule s b l g q hpre, ⟨rnmG_rule s b l g q hpre, ⟨rnmQ_rule s b l g q hpre, trivial⟩⟩⟩) (by first | exact ⟨stnD_nl s, trivial, trivial, trivial, trivial, trivial⟩ | exact busesD_nl _ | trivial) (by first | exact ⟨stnD_nl s, trivial, trivial, trivial, trivial, trivial⟩ | exact busesD_nl _ | trivial) ?_
  refine of_eq (B := letI z25 := (D.v (Value.string (Stn.n s))); letI z17 := (List.length (Stn.bu s)); letI z12 := (busesD (Stn.bu s)); letI z13 := (D.ro (List.length (Stn.li s)) (linesD (Stn.li s))); letI z14 := (D.ro (List.length (Stn.so s)) (srcsD (Stn.so s))); letI z15 := (D.ro (List.length (Stn.ba s)) (baysD (Stn.ba s))); letI z1 := (Option.some (Blk.mk (27 : Nat) [z25, (D.ro z17 z12), z13, z14, z15] Bool.true)); letI z0 := ((z1 = z1) ∧ (NamelessL [z25, (D.ro z17 z12), z13, z14, z15])); letI z2 := (D.v (Value.int IntKind.i64 ((q : Nat) : Int))); letI z23 := ((b : Nat) : Int); letI z3 := (Int.toNat z23); letI z20 := (D.v (Value.int IntKind.i64 (0 : Int))); letI z4 := ((True ∧ (z20 = z20)) ∧ True); letI z27 := (D.ptr (0 : Nat) (0 : Nat)); letI z5 := (True ∧ (z27 = z27)); letI z6 := (D.v (Value.int IntKind.i64 ((g : Nat) : Int))); letI z24 := ((z3 - (0 : Nat)) * (1 : Nat)); letI z22 := (List.take (z3 * (1 : Nat)) z12); letI z7 := (([] : List D) ++ (List.take z24 z22)); letI z8 := ([] : List (Option Blk)); letI z9 := (Cap.toEnd (1 : Nat)); letI z10 := nm3 s b l g q; letI z11 := ((0 : Nat) + (z3 - (0 : Nat))); letI z16 := (D.v (Value.int IntKind.i64 ((l : Nat) : Int))); letI z18 := List.length z10; letI z19 := Bool.true = Bool.true; letI z21 := (True ∧ (z2 = z2)); letI z26 := (9223372036854775807 : Nat); letI z28 := ((0 : Nat) < (1 : Nat)); letI z29 := (nm3 s b l g (0 : Nat)); letI z30 := (busesD (nm2 s b l g)); letI z31 := (nm2 s b l (0 : Nat)); letI z32 := (True ∧ (z6 = z6)); letI z33 := (busesD (nm1 s b l)); letI z34 := (nm1 s b (0 : Nat)); (True ∧ (True ∧ ((((0 : Nat) ≤ (16777216 : Nat)) ∧ ((0 : Nat) ≤ z26)) ∧ (True ∧ (((1 : Nat) < (5 : Nat)) ∧ (True ∧ ((True ∧ ((((0 : Int) ≤ z23) ∧ (z23 ≤ ((z17 : Nat) : Int))) ∧ True)) ∧ (((z24 ≤ (List.length z22)) ∧ (((22 : Nat) = (22 : Nat)) ∧ (((1 : Nat) = (1 : Nat)) ∧ (((9 : Nat) = (9 : Nat)) ∧ (((0 : Nat) ≤ (0 : Nat)) ∧ (z28 ∧ ((z11 ≤ z26) ∧ ((z11 * (16 : Nat)) ≤ (140737488355328 : Nat))))))))) ∧ (True ∧ (True ∧ (((0 : Nat) ≤ l) ∧ ((z19 ∧ ((z0 ∧ ((((Option.some (Blk.mk (9 : Nat) (busesD z34) Bool.false)) = (Option.some (Blk.mk (9 : Nat) z7 Bool.false))) ∧ (NamelessL z7)) ∧ (z8 = z8))) ∧ ((True ∧ (z16 = z16)) ∧ (z32 ∧ (z21 ∧ (z5 ∧ ((True ∧ ((D.sl (1 : Nat) (0 : Nat) z11 z9) = (D.sl (1 : Nat) (0 : Nat) (List.length z34) z9))) ∧ z4))))))) ∧ (Unit → (True → (True ∧ (((0 : Nat) ≤ g) ∧ ((z19 ∧ ((z0 ∧ ((((Option.some (Blk.mk (9 : Nat) (busesD z31) Bool.false)) = (Option.some (Blk.mk (9 : Nat) z33 Bool.false))) ∧ (NamelessL z33)) ∧ (z8 = z8))) ∧ (z32 ∧ (z21 ∧ (z5 ∧ ((True ∧ ((D.sl (1 : Nat) (0 : Nat) (List.length (nm1 s b l)) z9) = (D.sl (1 : Nat) (0 : Nat) (List.length z31) z9))) ∧ z4)))))) ∧ (Unit → (True → (True ∧ (((0 : Nat) ≤ q) ∧ ((z19 ∧ ((z0 ∧ ((((Option.some (Blk.mk (9 : Nat) (busesD z29) Bool.false)) = (Option.some (Blk.mk (9 : Nat) z30 Bool.false))) ∧ (NamelessL z30)) ∧ (z8 = z8))) ∧ (z21 ∧ (z5 ∧ ((True ∧ ((D.sl (1 : Nat) (0 : Nat) (List.length (nm2 s b l g)) z9) = (D.sl (1 : Nat) (0 : Nat) (List.length z29) z9))) ∧ z4))))) ∧ (Unit → (True → (True ∧ (True ∧ (True ∧ (((NamelessL (busesD z10)) ∧ (z28 ∧ (((0 : Nat) + (z18 * (1 : Nat))) ≤ (List.length (busesD z10))))) ∧ ((D.ro z18 (List.take (z18 * (1 : Nat)) (List.drop (0 : Nat) (busesD z10)))) = (D.ro z18 (busesD z10)))))))))))))))))))))))))))))))) (by kernel_rfl) ?_
  obtain ⟨ok, ⟨f1, f2, f3, f4⟩, hb, hl, hg, hq⟩ := hpre
  simp only [true_and, and_true, and_self, IsInt_lit, IsBool_lit, IsStr_lit, IsSl_lit, cellN_lit, cellL_lit, Bool.not_eq_true', Bool.not_eq_false', Bool.not_true, Bool.not_false, Int.reduceLE, Int.reduceLT, Int.reduceNeg, Nat.le_refl, Int.le_refl, Nat.reduceLT, Nat.reduceLeDiff, Nat.reduceEqDiff, D.v.injEq, D.tup.injEq, D.agg.injEq, D.ro.injEq, List.cons.injEq, Value.int.injEq, Value.bool.injEq, pcond_true, pcond_false, NamelessL, Nameless, Nat.reduceMul, Nat.reduceAdd, Nat.zero_add, Int.toNat_natCast, Nat.mul_one, Nat.sub_zero, List.nil_append, nm1_zero, nm2_zero, nm3_zero, busesD_take, List.drop_zero]
  have e1 : (s.bu.take b).take b = s.bu.take b := by rw [List.take_take, Nat.min_self]
  have e2 : (s.bu.take b).length = b := by rw [List.length_take]; omega
  have e3 := busesD_length (s.bu.take b)
  have e4 := busesD_length (nm3 s b l g q)
  have nA : NamelessL (busesD s.bu) ∧ NamelessL (linesD s.li) ∧ NamelessL (srcsD s.so) ∧ NamelessL (baysD s.ba) := ⟨busesD_nl s.bu, linesD_nl s.li, srcsD_nl s.so, baysD_nl s.ba⟩
  rw [e1]
  refine ⟨⟨by omega, by omega⟩, ⟨by omega, by omega, by omega⟩, Nat.zero_le _, ⟨⟨nA, rfl, busesD_nl _⟩, by rw [e2]⟩, fun _ _ => ⟨Nat.zero_le _, ⟨nA, busesD_nl _⟩, fun _ _ => ⟨Nat.zero_le _, ⟨nA, busesD_nl _⟩, fun _ _ => ⟨⟨busesD_nl _, by omega⟩, by rw [List.take_length]⟩⟩⟩⟩
def ent_rnames : Ent := fun ds => match ds with
  | [.agg [.v (.string n), .ro nb xb, .ro nl xl, .ro ns xs, .ro ny xy], .v (.int .i64 b), .v (.int .i64 l), .v (.int .i64 g), .v (.int .i64 q)] =>
    some (.ro (nm3 ⟨n, unBus xb, unLin xl, unSrc xs, unBay xy⟩ b.toNat l.toNat g.toNat q.toNat).length (busesD (nm3 ⟨n, unBus xb, unLin xl, unSrc xs, unBay xy⟩ b.toNat l.toNat g.toNat q.toNat)),
      StnOk ⟨n, unBus xb, unLin xl, unSrc xs, unBay xy⟩ nb nl ns ny xb xl xs xy ∧ fewS ⟨n, unBus xb, unLin xl, unSrc xs, unBay xy⟩ ∧ (0 ≤ b ∧ b ≤ nb) ∧ (0 ≤ l ∧ l ≤ nl) ∧ (0 ≤ g ∧ g ≤ ns) ∧ (0 ≤ q ∧ q ≤ ny))
  | _ => none
theorem ent_rnames_ok : EntOk Tryz.prog 39 ent_rnames := by
  intro ds d c hd hc; unfold ent_rnames at hd; split at hd
  · rename_i n nb xb nl xl ns xs ny xy b l g q
    obtain ⟨rfl, rfl⟩ := pair_inj hd
    obtain ⟨⟨⟨⟨⟨a1, a2⟩, -⟩, ⟨⟨b1, b2⟩, -⟩, ⟨⟨c1, c2⟩, -⟩, ⟨⟨d1, d2⟩, -⟩⟩, ho⟩, hf, ⟨hb0, hb⟩, ⟨hl0, hl⟩, ⟨hg0, hg⟩, hq0, hq⟩ := hc
    generalize unBus xb = u1 at *
    generalize unLin xl = u2 at *
    generalize unSrc xs = u3 at *
    generalize unBay xy = u4 at *
    subst a1; subst a2; subst b1; subst b2; subst c1; subst c2; subst d1; subst d2
    obtain ⟨b, rfl⟩ := Int.eq_ofNat_of_zero_le hb0
    obtain ⟨l, rfl⟩ := Int.eq_ofNat_of_zero_le hl0
    obtain ⟨g, rfl⟩ := Int.eq_ofNat_of_zero_le hg0
    obtain ⟨q, rfl⟩ := Int.eq_ofNat_of_zero_le hq0
    simp only [Int.toNat_natCast]
    exact rnames_pure ⟨n, u1, u2, u3, u4⟩ b l g q ⟨ho, hf, by simp only; omega, by simp only; omega, by simp only; omega, by simp only; omega⟩
  · cases hd
end Go.Proofs.YtfleadelfklenaaGreatDoor
end
