import Derived.Test.YtahiigfpikohgaaZUo13
import Derived.Lib.Builder
import Derived.Lib.Walk
import Derived.Lib.UnsafeStr
import Derived.Lib.Buffer
import Derived.Laws.Externs
import Derived.WalkKit
import Derived.RegionTactic
section
namespace Go.Proofs.Ytahiigfpikohgaa
open Go.VD
set_option linter.unusedVariables false
set_option linter.unusedSimpArgs false
set_option maxRecDepth 100000
def lp_chkLoop (l : List Itm) (d c h : Nat) : LoopO := loopRuleK2 (α := Nat) (β := Unit) (γ := Unit) 2 [.old 0, .sam 1] (fun i => (i ≤ l.length ∧ (chkL (l.take i) d c).2 ≤ 600) ∧ (chkL (l.take i) d c).1 = 0) (fun i => [(1, .v (.int .i64 (d : Int))), (2, .ptr 0 0), (3, .ptr 1 0), (11, .ro l.length (itemsD l)), (12, .v (.int .i64 (l.length : Int))), (13, .v (.int .i64 (i : Int)))]) (fun i => [some ⟨3, [.v (.int .i64 ((chkL (l.take i) d c).2 : Nat))], true⟩, some ⟨37, [.fn 17 0 [.ptr 0 0, .ptr 1 0]], true⟩]) (0) (fun _ => (chkL l d c).1 = 0) (fun _ => (.exit 0, [], [some ⟨3, [.v (.int .i64 ((chkL l d c).2 : Nat))], true⟩, some ⟨37, [.fn 17 0 [.ptr 0 0, .ptr 1 0]], true⟩])) (fun _ => True) (fun _ => (.ret, [(6, .v (.int .i64 (chkL l d c).1))], [some ⟨3, [.v (.int .i64 ((chkL l d c).2 : Nat))], true⟩, some ⟨37, [.fn 17 0 [.ptr 0 0, .ptr 1 0]], true⟩]))
theorem chkLoop_rule (l : List Itm) (d c h : Nat) (hpre : ChkIH h ∧ hL l ≤ h ∧ (okL l ∧ l.length ≤ maxLen) ∧ d ≤ 5 ∧ c ≤ 600) : LRuleK 2 Try.prog Try.f17.ntmps (loopAt ((Try.f17.body).getD .skip) 2) (lp_chkLoop l d c h) := by
  refine lruleK2_of (α := Nat) (β := Unit) (γ := Unit) (call := (addPure 18 ent_hItem (addCall 17 (entc_chkR h) noCalls))) (lp := fun _ => none) (N := 10) T_ok mixed (addPure_ok ent_hItem_ok (addCall_ok (entc_chkR_ok h hpre.1) noCalls_ok)) (fun i => l.length - i) (by kernel_rfl) (LpAllK.none _) ?_
  intro x hJ
  refine of_eq (B := letI z26 := ((x : Nat) : Int); letI z6 := ((Int.toNat z26) * (4 : Nat)); letI z21 := (List.getD (itemsD l) z6 (Inhabited.default)); letI z10 := (List.getD (itemsD l) (z6 + (1 : Nat)) (Inhabited.default)); letI z36 := ((z6 + (1 : Nat)) + (1 : Nat)); letI z14 := (List.getD (itemsD l) z36 (Inhabited.default)); letI z3 := (List.getD (itemsD l) (z36 + (1 : Nat)) (Inhabited.default)); letI z0 := (Option.some (Blk.mk (36 : Nat) [(D.v (Value.int IntKind.i64 (cellInt z21))), (D.ro (cellN z10) (cellL z10)), (D.v (Value.bool (cellBool z14))), (D.ro (cellN z3) (cellL z3))] Bool.true)); letI z43 := (Prod.fst (chkL l d c)); letI z18 := (Option.some (Blk.mk (3 : TypeId) [(D.v (Value.int IntKind.i64 (((Prod.snd (chkL l d c)) : Nat) : Int)))] Bool.true)); letI z22 := (D.ptr (0 : Nat) (0 : Nat)); letI z23 := (D.ptr (1 : Nat) (0 : Nat)); letI z11 := (Option.some (Blk.mk (37 : TypeId) [(D.fn (17 : FuncId) (0 : Nat) [z22, z23])] Bool.true)); letI z1 := (Prod.mk Exit.ret (Prod.mk [(Prod.mk (6 : Nat) (D.v (Value.int IntKind.i64 z43)))] [z18, z11])); letI z16 := (Exit.exit (0 : Nat)); letI z17 := ([] : List (Prod Nat D)); letI z2 := (Prod.mk z16 (Prod.mk z17 [z18, z11])); letI z4 := (Option.some (Blk.mk (37 : Nat) [(D.fn (17 : Nat) (0 : Nat) [z22, z23])] Bool.true)); letI z28 := (((Prod.snd (chkL (List.take x l) d c)) : Nat) : Int); letI z5 := (IntKind.wrap IntKind.i64 (z28 + (1 : Int))); letI z37 := (unI (cellL z3)); letI z7 := (Itm.mk (cellInt z21) (unW (cellL z10)) (cellBool z14) z37); letI z35 := ((d : Nat) : Int); letI z19 := (IntKind.wrap IntKind.i64 (z35 + (1 : Int))); letI z8 := (chkL z37 (Int.toNat z19) (Int.toNat z5)); letI z34 := (D.v (Value.int IntKind.i64 z5)); letI z9 := (Option.some (Blk.mk (3 : Nat) [z34] Bool.true)); letI z12 := (Option.some (Blk.mk (3 : Nat) [(D.v (Value.int IntKind.i64 (((Prod.snd z8) : Nat) : Int)))] Bool.true)); letI z13 := (D.v (Value.int IntKind.i64 z28)); letI z15 := (z43 = (0 : Int)); letI z20 := List.length l; letI z33 := ((z20 : Nat) : Int); letI z24 := (Prod.mk (12 : Nat) (D.v (Value.int IntKind.i64 z33))); letI z25 := (Prod.mk (1 : Nat) (D.v (Value.int IntKind.i64 z35))); letI z27 := Exit.ret = Exit.ret; letI z29 := (Option.some (Blk.mk (3 : Nat) [z13] Bool.true)); letI z30 := ((0 : Nat) < (1 : Nat)); letI z31 := Exit.ret = z16; letI z32 := (Prod.mk (11 : Nat) (D.ro z20 (itemsD l))); letI z38 := (IOk (cellN z3) (cellL z3)); letI z39 := ((4 : Nat) ≤ (4 : Nat)); letI z40 := ((1 : Nat) = (1 : Nat)); letI z41 := (Prod.mk (2 : Nat) z22); letI z42 := (Prod.mk (3 : Nat) z23); (True ∧ (pcond (Decidable.decide (z26 < z33)) ((((0 : Int) ≤ z26) ∧ (z26 < z33)) ∧ ((((z6 + (4 : Nat)) ≤ (List.length (itemsD l))) ∧ ((IsInt IntKind.i64 z21) ∧ ((IsSl z10) ∧ ((IsBool z14) ∧ ((IsSl z3) ∧ True))))) ∧ (True ∧ ((((4 : Nat) = (4 : Nat)) ∧ z39) ∧ ((z30 ∧ (IsInt IntKind.i64 z13)) ∧ (True ∧ ((z40 ∧ ((1 : Nat) ≤ (1 : Nat))) ∧ ((z30 ∧ (IsInt IntKind.i64 z34)) ∧ (True ∧ (pcond (Decidable.decide ((600 : Int) < z5)) (True ∧ ((∃ (r : Unit), (∃ (kp : (List KE)), (z15 ∧ (z31 ∧ (viewAllK (2 : Nat) kp z17 [z9, z4, z0] (Prod.fst (Prod.snd ((fun (x_1 : Unit) => z2) r))) (Prod.snd (Prod.snd ((fun (x_1 : Unit) => z2) r)))))))) ∨ (∃ (r : Unit), (∃ (kp : (List KE)), (True ∧ (z27 ∧ (viewAllK (2 : Nat) kp [(Prod.mk (6 : Nat) (D.v (Value.int IntKind.i64 (3 : Int))))] [z9, z4, z0] (Prod.fst (Prod.snd ((fun (x_1 : Unit) => z1) r))) (Prod.snd (Prod.snd ((fun (x_1 : Unit) => z1) r)))))))))) (True ∧ (True ∧ (pcond (Decidable.decide ((4 : Int) < z35)) (True ∧ ((∃ (r : Unit), (∃ (kp : (List KE)), (z15 ∧ (z31 ∧ (viewAllK (2 : Nat) kp z17 [z9, z4, z0] (Prod.fst (Prod.snd ((fun (x_1 : Unit) => z2) r))) (Prod.snd (Prod.snd ((fun (x_1 : Unit) => z2) r)))))))) ∨ (∃ (r : Unit), (∃ (kp : (List KE)), (True ∧ (z27 ∧ (viewAllK (2 : Nat) kp [(Prod.mk (6 : Nat) (D.v (Value.int IntKind.i64 (17 : Int))))] [z9, z4, z0] (Prod.fst (Prod.snd ((fun (x_1 : Unit) => z1) r))) (Prod.snd (Prod.snd ((fun (x_1 : Unit) => z1) r)))))))))) (z39 ∧ ((((WOk (cellN z10) (cellL z10)) ∧ z38) ∧ (okI z7)) ∧ (True ∧ (True ∧ (True ∧ (pcond ((itemE z7) != (0 : Int)) (True ∧ (True ∧ ((∃ (r : Unit), (∃ (kp : (List KE)), (z15 ∧ (z31 ∧ (viewAllK (2 : Nat) kp z17 [z9, z4, z0] (Prod.fst (Prod.snd ((fun (x_1 : Unit) => z2) r))) (Prod.snd (Prod.snd ((fun (x_1 : Unit) => z2) r)))))))) ∨ (∃ (r : Unit), (∃ (kp : (List KE)), (True ∧ (z27 ∧ (viewAllK (2 : Nat) kp [(Prod.mk (6 : Nat) (D.v (Value.int IntKind.i64 (itemE z7))))] [z9, z4, z0] (Prod.fst (Prod.snd ((fun (x_1 : Unit) => z1) r))) (Prod.snd (Prod.snd ((fun (x_1 : Unit) => z1) r))))))))))) (z30 ∧ (True ∧ (((3 : Nat) < (4 : Nat)) ∧ (True ∧ (True ∧ (((z38 ∧ ((hL z37) < h)) ∧ (((((0 : Int) ≤ z19) ∧ (z19 ≤ (5 : Int))) ∧ (((0 : Int) ≤ z5) ∧ (z5 ≤ (600 : Int)))) ∧ ((((3 : Nat) = (3 : Nat)) ∧ ((37 : Nat) = (37 : Nat))) ∧ (((0 : Nat) = (0 : Nat)) ∧ (z40 ∧ ((0 : Nat) ≠ (1 : Nat))))))) ∧ (True ∧ (True ∧ (True ∧ (pcond ((Prod.fst z8) != (0 : Int)) (True ∧ (True ∧ ((∃ (r : Unit), (∃ (kp : (List KE)), (z15 ∧ (z31 ∧ (viewAllK (2 : Nat) kp z17 [z12, z4, z0] (Prod.fst (Prod.snd ((fun (x_1 : Unit) => z2) r))) (Prod.snd (Prod.snd ((fun (x_1 : Unit) => z2) r)))))))) ∨ (∃ (r : Unit), (∃ (kp : (List KE)), (True ∧ (z27 ∧ (viewAllK (2 : Nat) kp [(Prod.mk (6 : Nat) (D.v (Value.int IntKind.i64 (Prod.fst z8))))] [z12, z4, z0] (Prod.fst (Prod.snd ((fun (x_1 : Unit) => z1) r))) (Prod.snd (Prod.snd ((fun (x_1 : Unit) => z1) r))))))))))) (True ∧ (True ∧ (∃ (y : Nat), (∃ (kp : (List KE)), (((z20 - y) < (z20 - x)) ∧ ((((y ≤ z20) ∧ ((Prod.snd (chkL (List.take y l) d c)) ≤ (600 : Nat))) ∧ ((Prod.fst (chkL (List.take y l) d c)) = (0 : Int))) ∧ (viewAllK (2 : Nat) kp [z25, z41, z42, z32, z24, (Prod.mk (13 : Nat) (D.v (Value.int IntKind.i64 (IntKind.wrap IntKind.i64 (z26 + (1 : Int))))))] [z12, z4, z0] [z25, z41, z42, z32, z24, (Prod.mk (13 : Nat) (D.v (Value.int IntKind.i64 ((y : Nat) : Int))))] [(Option.some (Blk.mk (3 : TypeId) [(D.v (Value.int IntKind.i64 (((Prod.snd (chkL (List.take y l) d c)) : Nat) : Int)))] Bool.true)), z11])))))))))))))))))))))))))))))))))))) ((∃ (r : Unit), (∃ (kp : (List KE)), (z15 ∧ ((z16 = z16) ∧ (viewAllK (2 : Nat) kp z17 [z29, z4] (Prod.fst (Prod.snd ((fun (x_1 : Unit) => z2) r))) (Prod.snd (Prod.snd ((fun (x_1 : Unit) => z2) r)))))))) ∨ (∃ (r : Unit), (∃ (kp : (List KE)), (True ∧ ((z16 = Exit.ret) ∧ (viewAllK (2 : Nat) kp z17 [z29, z4] (Prod.fst (Prod.snd ((fun (x_1 : Unit) => z1) r))) (Prod.snd (Prod.snd ((fun (x_1 : Unit) => z1) r)))))))))))) (by kernel_rfl) ?_
  simp only [true_and, and_true, and_self, IsInt_lit, IsBool_lit, IsStr_lit, IsSl_lit, cellN_lit, cellL_lit, Bool.not_eq_true', Bool.not_eq_false', Bool.not_true, Bool.not_false, Int.reduceLE, Int.reduceLT, Int.reduceNeg, Nat.le_refl, Int.le_refl, Nat.reduceLT, Nat.reduceLeDiff, Nat.reduceEqDiff, D.v.injEq, D.tup.injEq, D.agg.injEq, D.ro.injEq, List.cons.injEq, Value.int.injEq, Value.bool.injEq, pcond_true, pcond_false, NamelessL, Nameless, Nat.reduceMul, Nat.reduceAdd, Nat.zero_add, Int.toNat_natCast] at *
  obtain ⟨ih, hh, ⟨ho, hlm⟩, hd, hc⟩ := hpre
  obtain ⟨⟨hx, hcc⟩, h0⟩ := hJ
  simp only [maxLen] at hlm
  refine pcond_intro (fun h1 => ?_) (fun h1 => ?_)
  · simp only [decide_eq_true_eq] at h1
    have hxl : x < l.length := by omega
    obtain ⟨g0, g1, g2, g3⟩ := itemsD_get l x hxl
    have hlen := itemsD_length l
    have ox := okL_get l x ho hxl
    obtain ⟨o1, o2, o3, o4⟩ := okI_parts ox
    have hlt := hL_get l x hxl
    have hi : IntKind.i64.wrap ((x : Int) + 1) = ((x + 1 : Nat) : Int) := by rw [wrap_i64_of (by omega) (by omega)]; omega
    have hn : IntKind.i64.wrap (((chkL (l.take x) d c).2 : Nat) + 1) = (((chkL (l.take x) d c).2 + 1 : Nat) : Int) := by rw [wrap_i64_of (by omega) (by omega)]; omega
    have hdd : IntKind.i64.wrap ((d : Int) + 1) = ((d + 1 : Nat) : Int) := by rw [wrap_i64_of (by omega) (by omega)]; omega
    simp only [g0, g1, g2, g3, cellInt_lit, cellN_lit, cellL_lit, cellBool_lit, IsInt_lit, IsSl_lit, IsBool_lit, WOk_lit, IOk_lit, unW_wordsD, unI_itemsD, mk_eta, hi, hn, hdd, Int.toNat_natCast]
    have stop : (chkI (l.getD x default) d (chkL (l.take x) d c).2).1 ≠ 0 → chkL l d c = chkI (l.getD x default) d (chkL (l.take x) d c).2 := chk_stop hxl h0
    have step := chk_step (d := d) (c := c) hxl h0
    have eq := chkI_eq (l.getD x default) d (chkL (l.take x) d c).2
    generalize (chkL (l.take x) d c).2 = cn at *
    refine ⟨by omega, ⟨by omega, trivial, trivial, trivial, trivial⟩, pcond_intro (fun h2 => .inr ⟨(), [.old 0, .sam 1], ?_⟩) (fun h2 => pcond_intro (fun h3 => .inr ⟨(), [.old 0, .sam 1], ?_⟩) (fun h3 => ⟨⟨⟨o1, o2, o4⟩, ox⟩, pcond_intro (fun h4 => .inr ⟨(), [.old 0, .sam 1], ?_⟩) (fun h4 => ⟨⟨⟨⟨o2, o4⟩, by omega⟩, ⟨⟨by omega, ?_⟩, by omega, ?_⟩, ?_⟩, ?_⟩)⟩))⟩
    · have e : chkL l d c = (3, cn + 1) := by
        simp only [decide_eq_true_eq] at h2
        have e1 : chkI (l.getD x default) d cn = (3, cn + 1) := by rw [eq, decide_eq_true (show 600 ≤ cn by omega)]; rfl
        rw [stop (by rw [e1]; simp), e1]
      rw [e]
      refine of_eq (B := letI z0 := (Option.some (Blk.mk (37 : Nat) [(D.fn (17 : Nat) (0 : Nat) [(D.ptr (0 : Nat) (0 : Nat)), (D.ptr (1 : Nat) (0 : Nat))])] Bool.true)); letI z1 := (D.v (Value.int IntKind.i64 (((cn + (1 : Nat)) : Nat) : Int))); letI z2 := (Option.some (Blk.mk (3 : Nat) [z1] Bool.true)); letI z3 := (D.v (Value.int IntKind.i64 (3 : Int))); letI z4 := ([] : List (Option Blk)); letI z5 := Bool.true = Bool.true; (z5 ∧ ((((z2 = z2) ∧ (NamelessL [z1])) ∧ (((z0 = z0) ∧ z5) ∧ (z4 = z4))) ∧ ((True ∧ (z3 = z3)) ∧ True)))) (by kernel_rfl) ?_
      simp [NamelessL, Nameless]
    · have e : chkL l d c = (17, cn + 1) := by
        simp only [decide_eq_true_eq, decide_eq_false_iff_not] at h2 h3
        have e1 : chkI (l.getD x default) d cn = (17, cn + 1) := by rw [eq, decide_eq_false (show ¬ 600 ≤ cn by omega), decide_eq_true (show 4 < d by omega)]; rfl
        rw [stop (by rw [e1]; simp), e1]
      rw [e]
      refine of_eq (B := letI z0 := (Option.some (Blk.mk (37 : Nat) [(D.fn (17 : Nat) (0 : Nat) [(D.ptr (0 : Nat) (0 : Nat)), (D.ptr (1 : Nat) (0 : Nat))])] Bool.true)); letI z1 := (D.v (Value.int IntKind.i64 (((cn + (1 : Nat)) : Nat) : Int))); letI z2 := (Option.some (Blk.mk (3 : Nat) [z1] Bool.true)); letI z3 := (D.v (Value.int IntKind.i64 (17 : Int))); letI z4 := ([] : List (Option Blk)); letI z5 := Bool.true = Bool.true; (z5 ∧ ((((z2 = z2) ∧ (NamelessL [z1])) ∧ (((z0 = z0) ∧ z5) ∧ (z4 = z4))) ∧ ((True ∧ (z3 = z3)) ∧ True)))) (by kernel_rfl) ?_
      simp [NamelessL, Nameless]
    · have e : chkL l d c = (itemE (l.getD x default), cn + 1) := by
        simp only [decide_eq_false_iff_not] at h2 h3
        rw [bne_iff_ne] at h4
        have e1 : chkI (l.getD x default) d cn = (itemE (l.getD x default), cn + 1) := by rw [eq, decide_eq_false (show ¬ 600 ≤ cn by omega), decide_eq_false (show ¬ 4 < d by omega), decide_eq_false h4]; rfl
        rw [stop (by rw [e1]; exact h4), e1]
      rw [e]
      refine of_eq (B := letI z0 := (Option.some (Blk.mk (37 : Nat) [(D.fn (17 : Nat) (0 : Nat) [(D.ptr (0 : Nat) (0 : Nat)), (D.ptr (1 : Nat) (0 : Nat))])] Bool.true)); letI z1 := (D.v (Value.int IntKind.i64 (((cn + (1 : Nat)) : Nat) : Int))); letI z2 := (D.v (Value.int IntKind.i64 (itemE (List.getD l x (Inhabited.default))))); letI z3 := (Option.some (Blk.mk (3 : Nat) [z1] Bool.true)); letI z4 := ([] : List (Option Blk)); letI z5 := Bool.true = Bool.true; (z5 ∧ ((((z3 = z3) ∧ (NamelessL [z1])) ∧ (((z0 = z0) ∧ z5) ∧ (z4 = z4))) ∧ ((True ∧ (z2 = z2)) ∧ True)))) (by kernel_rfl) ?_
      simp [NamelessL, Nameless]
    · simp only [decide_eq_false_iff_not] at h3; omega
    · simp only [decide_eq_false_iff_not] at h2; omega
    · decide
    · simp only [decide_eq_false_iff_not] at h2 h3
      rw [bne_eq_false_iff_eq] at h4
      have e1 : chkI (l.getD x default) d cn = chkL (l.getD x default).ks (d + 1) (cn + 1) := by rw [eq, decide_eq_false (show ¬ 600 ≤ cn by omega), decide_eq_false (show ¬ 4 < d by omega), decide_eq_true h4]; rfl
      rw [← e1]
      refine pcond_intro (fun h5 => .inr ⟨(), [.old 0, .sam 1], ?_⟩) (fun h5 => ⟨x + 1, [.old 0, .sam 1], by omega, ⟨⟨by omega, ?_⟩, ?_⟩, ?_⟩)
      · rw [bne_iff_ne] at h5
        rw [stop h5]
        refine of_eq (B := letI z2 := (chkI (List.getD l x (Inhabited.default)) d cn); letI z0 := (D.v (Value.int IntKind.i64 (((Prod.snd z2) : Nat) : Int))); letI z1 := (Option.some (Blk.mk (37 : Nat) [(D.fn (17 : Nat) (0 : Nat) [(D.ptr (0 : Nat) (0 : Nat)), (D.ptr (1 : Nat) (0 : Nat))])] Bool.true)); letI z3 := (Option.some (Blk.mk (3 : Nat) [z0] Bool.true)); letI z4 := (D.v (Value.int IntKind.i64 (Prod.fst z2))); letI z5 := ([] : List (Option Blk)); letI z6 := Bool.true = Bool.true; (z6 ∧ ((((z3 = z3) ∧ (NamelessL [z0])) ∧ (((z1 = z1) ∧ z6) ∧ (z5 = z5))) ∧ ((True ∧ (z4 = z4)) ∧ True)))) (by kernel_rfl) ?_
        simp [NamelessL, Nameless]
      · rw [bne_eq_false_iff_eq] at h5
        rw [step]; exact chkI_le _ _ _ h5
      · rw [bne_eq_false_iff_eq] at h5
        rw [step]; exact h5
      · rw [step]
        refine of_eq (B := letI z0 := (D.v (Value.int IntKind.i64 (((Prod.snd (chkI (List.getD l x (Inhabited.default)) d cn)) : Nat) : Int))); letI z4 := (D.ptr (0 : Nat) (0 : Nat)); letI z5 := (D.ptr (1 : Nat) (0 : Nat)); letI z1 := (Option.some (Blk.mk (37 : Nat) [(D.fn (17 : Nat) (0 : Nat) [z4, z5])] Bool.true)); letI z2 := (D.v (Value.int IntKind.i64 (((List.length l) : Nat) : Int))); letI z3 := (D.v (Value.int IntKind.i64 (((x + (1 : Nat)) : Nat) : Int))); letI z6 := (Option.some (Blk.mk (3 : Nat) [z0] Bool.true)); letI z7 := (D.v (Value.int IntKind.i64 ((d : Nat) : Int))); letI z8 := (D.ro (List.length l) (itemsD l)); letI z9 := ([] : List (Option Blk)); letI z10 := Bool.true = Bool.true; (z10 ∧ ((((z6 = z6) ∧ (NamelessL [z0])) ∧ (((z1 = z1) ∧ z10) ∧ (z9 = z9))) ∧ ((True ∧ (z7 = z7)) ∧ ((True ∧ (z4 = z4)) ∧ ((True ∧ (z5 = z5)) ∧ ((True ∧ (z8 = z8)) ∧ ((True ∧ (z2 = z2)) ∧ ((True ∧ (z3 = z3)) ∧ True))))))))) (by kernel_rfl) ?_
        simp [NamelessL, Nameless]
  · simp only [decide_eq_false_iff_not] at h1
    have e : l.take x = l := List.take_of_length_le (by omega)
    rw [e] at h0 ⊢
    refine .inl ⟨(), [.old 0, .sam 1], h0, ?_⟩
    refine of_eq (B := letI z0 := (D.v (Value.int IntKind.i64 (((Prod.snd (chkL l d c)) : Nat) : Int))); letI z1 := (Option.some (Blk.mk (37 : Nat) [(D.fn (17 : Nat) (0 : Nat) [(D.ptr (0 : Nat) (0 : Nat)), (D.ptr (1 : Nat) (0 : Nat))])] Bool.true)); letI z2 := (Option.some (Blk.mk (3 : Nat) [z0] Bool.true)); letI z3 := ([] : List (Option Blk)); letI z4 := Bool.true = Bool.true; (z4 ∧ ((((z2 = z2) ∧ (NamelessL [z0])) ∧ (((z1 = z1) ∧ z4) ∧ (z3 = z3))) ∧ True))) (by kernel_rfl) ?_
    simp [NamelessL, Nameless]
theorem chk_call (l : List Itm) (d c h : Nat) (hpre : ChkIH h ∧ hL l ≤ h ∧ (okL l ∧ l.length ≤ maxLen) ∧ d ≤ 5 ∧ c ≤ 600) : CallJ Try.prog 17 [.ro l.length (itemsD l), .v (.int .i64 (d : Int)), .ptr 0 0, .ptr 1 0] ([some ⟨3, [.v (.int .i64 (c : Int))], true⟩, some ⟨37, [.fn 17 0 [.ptr 0 0, .ptr 1 0]], true⟩]) (.v (.int .i64 (chkL l d c).1)) ([some ⟨3, [.v (.int .i64 ((chkL l d c).2 : Nat))], true⟩, some ⟨37, [.fn 17 0 [.ptr 0 0, .ptr 1 0]], true⟩]) := by
  refine callJ_of_vck (k := 2) (call := noCalls) (lp := fun k => bif Nat.beq k 2 then some (lp_chkLoop l d c h) else none) (N := 10) T_ok mixed noCalls_ok Try.func17 rfl (by decide) (by kernel_rfl) (by kernel_rfl) rfl (of_eq (B := LRuleK 2 Try.prog Try.f17.ntmps (loopAt ((Try.f17.body).getD .skip) 2) (lp_chkLoop l d c h) ∧ True) (by kernel_rfl) ⟨chkLoop_rule l d c h hpre, trivial⟩) ?_
  refine of_eq (B := letI z4 := (D.ptr (0 : Nat) (0 : Nat)); letI z5 := (D.ptr (1 : Nat) (0 : Nat)); letI z0 := (Option.some (Blk.mk (37 : Nat) [(D.fn (17 : Nat) (0 : Nat) [z4, z5])] Bool.true)); letI z1 := (D.v (Value.int IntKind.i64 (((Prod.snd (chkL l d c)) : Nat) : Int))); letI z2 := (Option.some (Blk.mk (37 : TypeId) [(D.fn (17 : FuncId) (0 : Nat) [z4, z5])] Bool.true)); letI z16 := (Prod.fst (chkL l d c)); letI z3 := (D.v (Value.int IntKind.i64 z16)); letI z6 := (D.v (Value.int IntKind.i64 (0 : Int))); letI z13 := List.length l; letI z7 := (D.v (Value.int IntKind.i64 ((z13 : Nat) : Int))); letI z8 := (Option.some (Blk.mk (3 : TypeId) [z1] Bool.true)); letI z9 := (chkL ([] : List Itm) d c); letI z10 := (D.v (Value.int IntKind.i64 ((c : Nat) : Int))); letI z11 := (D.v (Value.int IntKind.i64 ((d : Nat) : Int))); letI z12 := (Option.some (Blk.mk (3 : Nat) [z1] Bool.true)); letI z14 := ([] : List (Option Blk)); letI z15 := Bool.true = Bool.true; letI z17 := (D.ro z13 (itemsD l)); (True ∧ (True ∧ (True ∧ (True ∧ (((((0 : Nat) ≤ z13) ∧ ((Prod.snd z9) ≤ (600 : Nat))) ∧ ((Prod.fst z9) = (0 : Int))) ∧ ((z15 ∧ (((((Option.some (Blk.mk (3 : Nat) [(D.v (Value.int IntKind.i64 (((Prod.snd z9) : Nat) : Int)))] Bool.true)) = (Option.some (Blk.mk (3 : Nat) [z10] Bool.true))) ∧ (NamelessL [z10])) ∧ (((z0 = z0) ∧ z15) ∧ (z14 = z14))) ∧ ((True ∧ (z11 = z11)) ∧ ((True ∧ (z4 = z4)) ∧ ((True ∧ (z5 = z5)) ∧ ((True ∧ (z17 = z17)) ∧ ((True ∧ (z7 = z7)) ∧ ((True ∧ (z6 = z6)) ∧ True)))))))) ∧ ((Unit → ((z16 = (0 : Int)) → (True ∧ (True ∧ (∃ (kp : (List KE)), (viewFin (2 : Nat) kp [z12, z0] z6 z3 [z8, z2])))))) ∧ (Unit → (True → (True ∧ (∃ (kp : (List KE)), (viewFin (2 : Nat) kp [z12, z0] z3 z3 [z8, z2]))))))))))))) (by kernel_rfl) ?_
  simp only [true_and, and_true, and_self, IsInt_lit, IsBool_lit, IsStr_lit, IsSl_lit, cellN_lit, cellL_lit, Bool.not_eq_true', Bool.not_eq_false', Bool.not_true, Bool.not_false, Int.reduceLE, Int.reduceLT, Int.reduceNeg, Nat.le_refl, Int.le_refl, Nat.reduceLT, Nat.reduceLeDiff, Nat.reduceEqDiff, D.v.injEq, D.tup.injEq, D.agg.injEq, D.ro.injEq, List.cons.injEq, Value.int.injEq, Value.bool.injEq, pcond_true, pcond_false, NamelessL, Nameless, Nat.reduceMul, Nat.reduceAdd, Nat.zero_add, Int.toNat_natCast]
  obtain ⟨ih, hh, ⟨ho, hlm⟩, hd, hc⟩ := hpre
  refine ⟨⟨⟨Nat.zero_le _, by simpa [chkL] using hc⟩, by simp [chkL]⟩, by simp [chkL], fun _ h0 => ⟨[.old 0, .sam 1], ?_⟩, fun _ _ => ⟨[.old 0, .sam 1], ?_⟩⟩
  · rw [h0]
    refine of_eq (B := letI z0 := (D.v (Value.int IntKind.i64 (((Prod.snd (chkL l d c)) : Nat) : Int))); letI z1 := (Option.some (Blk.mk (37 : Nat) [(D.fn (17 : Nat) (0 : Nat) [(D.ptr (0 : Nat) (0 : Nat)), (D.ptr (1 : Nat) (0 : Nat))])] Bool.true)); letI z2 := (Option.some (Blk.mk (3 : Nat) [z0] Bool.true)); letI z3 := (D.v (Value.int IntKind.i64 (0 : Int))); letI z4 := ([] : List (Option Blk)); letI z5 := Bool.true = Bool.true; (z5 ∧ ((((z2 = z2) ∧ (NamelessL [z0])) ∧ (((z1 = z1) ∧ z5) ∧ (z4 = z4))) ∧ (True ∧ (z3 = z3))))) (by kernel_rfl) ?_
    simp [NamelessL, Nameless]
  · refine of_eq (B := letI z0 := (D.v (Value.int IntKind.i64 (((Prod.snd (chkL l d c)) : Nat) : Int))); letI z1 := (Option.some (Blk.mk (37 : Nat) [(D.fn (17 : Nat) (0 : Nat) [(D.ptr (0 : Nat) (0 : Nat)), (D.ptr (1 : Nat) (0 : Nat))])] Bool.true)); letI z2 := (D.v (Value.int IntKind.i64 (Prod.fst (chkL l d c)))); letI z3 := (Option.some (Blk.mk (3 : Nat) [z0] Bool.true)); letI z4 := ([] : List (Option Blk)); letI z5 := Bool.true = Bool.true; (z5 ∧ ((((z3 = z3) ∧ (NamelessL [z0])) ∧ (((z1 = z1) ∧ z5) ∧ (z4 = z4))) ∧ (True ∧ (z2 = z2))))) (by kernel_rfl) ?_
    simp [NamelessL, Nameless]
theorem chk_all : ∀ h, ChkIH h := by
  intro h
  induction h with
  | zero => intro l d c hl; omega
  | succ h ih => intro l d c h1 h2 h3 h4; exact chk_call l d c h ⟨ih, by omega, h2, h3, h4⟩
theorem entc_chk_ok (h : Nat) : EntCOk Try.prog 17 (entc_chkR h) := entc_chkR_ok h (chk_all h)
def chkE (l : List Itm) : Int := (chkL l 0 0).1
def entc_chk := entc_chkR
theorem hCheck_pure (l : List Itm) (hpre : okL l ∧ l.length ≤ maxLen) : PureJ Try.prog 8 [.ro l.length (itemsD l)] (.v (.int .i64 (chkE l))) := by
  refine pureJ_of_vcx (call := (addCall 17 (entc_chkR (hL l + 1)) noCalls)) (lp := fun _ => none) (N := 10) T_ok mixed (addCall_ok (entc_chkR_ok (hL l + 1) (chk_all (hL l + 1))) noCalls_ok) Try.func8 rfl (by decide) (by kernel_rfl) (by kernel_rfl) (LpAll.none _) (by first | exact ⟨itemsD_nl l, trivial⟩ | trivial | simp [NamelessL, Nameless]) (by first | exact ⟨itemsD_nl l, trivial⟩ | trivial | simp [NamelessL, Nameless]) ?_
  refine of_eq (B := letI z2 := ((1 : Nat) = (1 : Nat)); letI z0 := (z2 ∧ ((1 : Nat) ≤ (1 : Nat))); letI z1 := ((0 : Int) ≤ (0 : Int)); (True ∧ (True ∧ (z0 ∧ (True ∧ (True ∧ (z0 ∧ (((0 : Nat) < (1 : Nat)) ∧ (True ∧ ((((IOk (List.length l) (itemsD l)) ∧ ((hL (unI (itemsD l))) < ((hL l) + (1 : Nat)))) ∧ (((z1 ∧ ((0 : Int) ≤ (5 : Int))) ∧ (z1 ∧ ((0 : Int) ≤ (600 : Int)))) ∧ ((((3 : Nat) = (3 : Nat)) ∧ ((37 : Nat) = (37 : Nat))) ∧ (((0 : Nat) = (0 : Nat)) ∧ (z2 ∧ ((0 : Nat) ≠ (1 : Nat))))))) ∧ (True ∧ (True ∧ (True ∧ ((D.v (Value.int IntKind.i64 (Prod.fst (chkL (unI (itemsD l)) (0 : Nat) (0 : Nat))))) = (D.v (Value.int IntKind.i64 (chkE l))))))))))))))))) (by kernel_rfl) ?_
  simp only [true_and, and_true, and_self, IsInt_lit, IsBool_lit, IsStr_lit, IsSl_lit, cellN_lit, cellL_lit, Bool.not_eq_true', Bool.not_eq_false', Bool.not_true, Bool.not_false, Int.reduceLE, Int.reduceLT, Int.reduceNeg, Nat.le_refl, Int.le_refl, Nat.reduceLT, Nat.reduceLeDiff, Nat.reduceEqDiff, D.v.injEq, D.tup.injEq, D.agg.injEq, D.ro.injEq, List.cons.injEq, Value.int.injEq, Value.bool.injEq, pcond_true, pcond_false, NamelessL, Nameless, Nat.reduceMul, Nat.reduceAdd, Nat.zero_add, Int.toNat_natCast, IOk_lit, unI_itemsD]
  exact ⟨⟨⟨⟨hpre.2, hpre.1⟩, Nat.lt_succ_self _⟩, by decide⟩, rfl⟩
def ent_hCheck : Ent := fun ds => match ds with
  | [.ro n ys] => some (.v (.int .i64 (chkE (unI ys))), IOk n ys)
  | _ => none
theorem ent_hCheck_ok : EntOk Try.prog 8 ent_hCheck := by
  intro ds d c hd hc; unfold ent_hCheck at hd; split at hd
  · obtain ⟨rfl, rfl⟩ := pair_inj hd
    obtain ⟨⟨h1, h2⟩, h3, h4⟩ := hc
    rename_i n ys
    generalize unI ys = l at *
    subst h1; subst h2
    exact hCheck_pure l ⟨h4, h3⟩
  · cases hd
end Go.Proofs.Ytahiigfpikohgaa
end
section
namespace Go.Proofs.Ytahiigfpikohgaa
open Go.VD
set_option linter.unusedVariables false
set_option linter.unusedSimpArgs false
set_option maxRecDepth 100000
mutual
def rckI : Itm → Nat → Nat → Nat
  | .mk l ws b ks, d, c => bif decide (600 ≤ c) then c else bif decide (4 < d) then c else bif !decide (itemE (.mk l ws b ks) = 0) then c + 1 else rckL ks (d + 1) (c + 1)
def rckL : List Itm → Nat → Nat → Nat
  | [], _, c => c
  | x :: r, d, c => bif decide ((chkI x d c).1 = 0) then rckL r d (chkI x d c).2 else rckI x d c
end
theorem rckI_eq (x : Itm) (d c : Nat) : rckI x d c = bif decide (600 ≤ c) then c else bif decide (4 < d) then c else bif !decide (itemE x = 0) then c + 1 else rckL x.ks (d + 1) (c + 1) := by
  cases x; simp only [rckI, Itm.ks]
mutual
theorem rckI_ok : ∀ (x : Itm) (d c : Nat), (chkI x d c).1 = 0 → rckI x d c = (chkI x d c).2
  | .mk l ws b ks, d, c, h => by
    rw [chkI] at h ⊢
    rw [rckI]
    by_cases h1 : 600 ≤ c
    · rw [decide_eq_true h1] at h; simp at h
    · rw [decide_eq_false h1] at h ⊢
      by_cases h2 : 4 < d
      · rw [decide_eq_true h2] at h; simp at h
      · rw [decide_eq_false h2] at h ⊢
        by_cases h3 : itemE (.mk l ws b ks) = 0
        · rw [decide_eq_true h3] at h ⊢
          simp only [cond_false, Bool.not_true] at h ⊢
          exact rckL_ok ks _ _ h
        · rw [decide_eq_false h3] at h; simp at h; exact absurd h h3
theorem rckL_ok : ∀ (l : List Itm) (d c : Nat), (chkL l d c).1 = 0 → rckL l d c = (chkL l d c).2
  | [], d, c, h => by simp [chkL, rckL]
  | x :: r, d, c, h => by
    rw [chkL] at h ⊢
    rw [rckL]
    by_cases h1 : (chkI x d c).1 = 0
    · rw [decide_eq_true h1] at h ⊢
      simp only [cond_true] at h ⊢
      exact rckL_ok r d _ h
    · rw [decide_eq_false h1] at h; exact absurd h h1
end
theorem rck_stop : ∀ {l : List Itm} {i d c : Nat}, i < l.length → (chkL (l.take i) d c).1 = 0 → (chkI (l.getD i default) d (chkL (l.take i) d c).2).1 ≠ 0 → rckL l d c = rckI (l.getD i default) d (chkL (l.take i) d c).2
  | [], i, d, c, h, _, _ => by simp at h
  | y :: r, 0, d, c, _, _, hn => by
    simp only [List.take_zero, chkL, List.getD_cons_zero] at hn ⊢
    rw [rckL, decide_eq_false hn]; rfl
  | y :: r, i + 1, d, c, hi, h0, hn => by
    rw [List.take_succ_cons, chkL] at h0 hn ⊢
    rw [List.getD_cons_succ] at hn ⊢
    by_cases h1 : (chkI y d c).1 = 0
    · rw [decide_eq_true h1] at h0 hn ⊢
      simp only [cond_true] at h0 hn ⊢
      rw [rckL, decide_eq_true h1]
      exact rck_stop (l := r) (by simpa using hi) h0 hn
    · rw [decide_eq_false h1] at h0; exact absurd h0 h1
def RckIH (h : Nat) : Prop := ∀ (l : List Itm) (d c : Nat), hL l < h → (okL l ∧ l.length ≤ maxLen) → d ≤ 5 → c ≤ 600 →
  PureJ Try.prog 19 [.ro l.length (itemsD l), .v (.int .i64 (d : Int)), .v (.int .i64 (c : Int))] (.tup [.v (.int .i64 (rckL l d c : Nat)), .v (.int .i64 (chkL l d c).1)])
def ent_rckR (h : Nat) : Ent := fun ds => match ds with
  | [.ro n ys, .v (.int .i64 d), .v (.int .i64 c)] => some (.tup [.v (.int .i64 (rckL (unI ys) d.toNat c.toNat : Nat)), .v (.int .i64 (chkL (unI ys) d.toNat c.toNat).1)], (IOk n ys ∧ hL (unI ys) < h) ∧ (0 ≤ d ∧ d ≤ 5) ∧ 0 ≤ c ∧ c ≤ 600)
  | _ => none
theorem ent_rckR_ok (h : Nat) (ih : RckIH h) : EntOk Try.prog 19 (ent_rckR h) := by
  intro ds d0 c0 hd hc; unfold ent_rckR at hd; split at hd
  · rename_i n ys d c
    obtain ⟨rfl, rfl⟩ := pair_inj hd
    obtain ⟨⟨⟨⟨h1, h2⟩, h3, h4⟩, hh⟩, ⟨d1, d2⟩, c1, c2⟩ := hc
    generalize unI ys = l at *
    subst h1; subst h2
    obtain ⟨dn, rfl⟩ := Int.eq_ofNat_of_zero_le d1
    obtain ⟨cn, rfl⟩ := Int.eq_ofNat_of_zero_le c1
    exact ih l dn cn hh ⟨h4, h3⟩ (by omega) (by omega)
  · cases hd
def lp_rckLoop (l : List Itm) (d c h : Nat) : LoopO := loopRule2 (α := Nat) (β := Unit) (γ := Unit) [] (fun i => (i ≤ l.length ∧ (chkL (l.take i) d c).2 ≤ 600) ∧ (chkL (l.take i) d c).1 = 0) (fun i => [(0, .ro l.length (itemsD l)), (1, .v (.int .i64 (d : Int))), (2, .v (.int .i64 ((chkL (l.take i) d c).2 : Nat))), (8, .v (.int .i64 (i : Int)))]) (fun i => []) (0) (fun _ => (chkL l d c).1 = 0) (fun _ => (.exit 0, [(2, .v (.int .i64 ((chkL l d c).2 : Nat)))], [])) (fun _ => True) (fun _ => (.ret, [(6, .v (.int .i64 (rckL l d c : Nat))), (7, .v (.int .i64 (chkL l d c).1))], []))
theorem rckLoop_rule (l : List Itm) (d c h : Nat) (hpre : RckIH h ∧ hL l ≤ h ∧ (okL l ∧ l.length ≤ maxLen) ∧ d ≤ 5 ∧ c ≤ 600) : LRuleP Try.prog Try.f19.ntmps (loopAt ((Try.f19.body).getD .skip) 2) (lp_rckLoop l d c h) := by
  refine lrule_of2 (α := Nat) (β := Unit) (γ := Unit) (call := (addPure 29 ent_rItem (addPure 19 (ent_rckR h) noCalls))) (lp := fun _ => none) (N := 10) T_ok mixed (addPure_ok ent_rItem_ok (addPure_ok (ent_rckR_ok h hpre.1) noCalls_ok)) (fun i => l.length - i) (by kernel_rfl) (LpAllP.none _) ?_
  intro x hJ
  refine of_eq (B := letI z33 := (Prod.fst (chkL l d c)); letI z8 := ([] : List (Option Blk)); letI z0 := (Prod.mk Exit.ret (Prod.mk [(Prod.mk (6 : Nat) (D.v (Value.int IntKind.i64 (((rckL l d c) : Nat) : Int)))), (Prod.mk (7 : Nat) (D.v (Value.int IntKind.i64 z33)))] z8)); letI z13 := (Exit.exit (0 : Nat)); letI z1 := (Prod.mk z13 (Prod.mk [(Prod.mk (2 : Nat) (D.v (Value.int IntKind.i64 (((Prod.snd (chkL l d c)) : Nat) : Int))))] z8)); letI z22 := ((x : Nat) : Int); letI z2 := ((Int.toNat z22) * (4 : Nat)); letI z14 := (((Prod.snd (chkL (List.take x l) d c)) : Nat) : Int); letI z3 := (IntKind.wrap IntKind.i64 (z14 + (1 : Int))); letI z24 := (List.getD (itemsD l) z2 (Inhabited.default)); letI z10 := (List.getD (itemsD l) (z2 + (1 : Nat)) (Inhabited.default)); letI z29 := ((z2 + (1 : Nat)) + (1 : Nat)); letI z18 := (List.getD (itemsD l) z29 (Inhabited.default)); letI z9 := (List.getD (itemsD l) (z29 + (1 : Nat)) (Inhabited.default)); letI z4 := (Itm.mk (cellInt z24) (unW (cellL z10)) (cellBool z18) (unI (cellL z9))); letI z5 := (List.getD (itemsD l) (z2 + (3 : Nat)) (Inhabited.default)); letI z6 := (D.v (Value.int IntKind.i64 z14)); letI z28 := ((d : Nat) : Int); letI z7 := (IntKind.wrap IntKind.i64 (z28 + (1 : Int))); letI z11 := (List (Option Nat)); letI z12 := (z33 = (0 : Int)); letI z30 := (unI (cellL z5)); letI z15 := (D.v (Value.int IntKind.i64 (((rckL z30 (Int.toNat z7) (Int.toNat z3)) : Nat) : Int))); letI z17 := List.length l; letI z35 := ((z17 : Nat) : Int); letI z16 := (((0 : Int) ≤ z22) ∧ (z22 < z35)); letI z19 := (Prod.mk (1 : Nat) (D.v (Value.int IntKind.i64 z28))); letI z20 := (Prod.fst (chkL z30 (Int.toNat z7) (Int.toNat z3))); letI z21 := (D.v (Value.int IntKind.i64 z3)); letI z23 := Exit.ret = Exit.ret; letI z25 := Exit.ret = z13; letI z26 := (Prod.mk (2 : Nat) z6); letI z27 := (Prod.mk (0 : Nat) (D.ro z17 (itemsD l))); letI z31 := (List.length (itemsD l)); letI z32 := (Prod.mk (2 : Nat) z21); letI z34 := (Prod.mk (6 : Nat) z6); (True ∧ (True ∧ (True ∧ (True ∧ (pcond (Decidable.decide (z22 < z35)) (True ∧ (True ∧ (pcond (Decidable.decide ((600 : Int) ≤ z14)) (True ∧ (True ∧ (True ∧ ((∃ (r : Unit), (∃ (kp : z11), (z12 ∧ (z25 ∧ (viewAll kp [z26] z8 (Prod.fst (Prod.snd ((fun (x_1 : Unit) => z1) r))) (Prod.snd (Prod.snd ((fun (x_1 : Unit) => z1) r)))))))) ∨ (∃ (r : Unit), (∃ (kp : z11), (True ∧ (z23 ∧ (viewAll kp [z34, (Prod.mk (7 : Nat) (D.v (Value.int IntKind.i64 (3 : Int))))] z8 (Prod.fst (Prod.snd ((fun (x_1 : Unit) => z0) r))) (Prod.snd (Prod.snd ((fun (x_1 : Unit) => z0) r)))))))))))) (True ∧ (True ∧ (pcond (Decidable.decide ((4 : Int) < z28)) (True ∧ (True ∧ (True ∧ ((∃ (r : Unit), (∃ (kp : z11), (z12 ∧ (z25 ∧ (viewAll kp [z26] z8 (Prod.fst (Prod.snd ((fun (x_1 : Unit) => z1) r))) (Prod.snd (Prod.snd ((fun (x_1 : Unit) => z1) r)))))))) ∨ (∃ (r : Unit), (∃ (kp : z11), (True ∧ (z23 ∧ (viewAll kp [z34, (Prod.mk (7 : Nat) (D.v (Value.int IntKind.i64 (17 : Int))))] z8 (Prod.fst (Prod.snd ((fun (x_1 : Unit) => z0) r))) (Prod.snd (Prod.snd ((fun (x_1 : Unit) => z0) r)))))))))))) (True ∧ (True ∧ (True ∧ (True ∧ (True ∧ (z16 ∧ ((((z2 + (4 : Nat)) ≤ z31) ∧ ((IsInt IntKind.i64 z24) ∧ ((IsSl z10) ∧ ((IsBool z18) ∧ ((IsSl z9) ∧ True))))) ∧ ((((WOk (cellN z10) (cellL z10)) ∧ (IOk (cellN z9) (cellL z9))) ∧ (okI z4)) ∧ (True ∧ (True ∧ (True ∧ (pcond ((itemE z4) != (0 : Int)) (True ∧ (True ∧ (True ∧ (True ∧ ((∃ (r : Unit), (∃ (kp : z11), (z12 ∧ (z25 ∧ (viewAll kp [z32] z8 (Prod.fst (Prod.snd ((fun (x_1 : Unit) => z1) r))) (Prod.snd (Prod.snd ((fun (x_1 : Unit) => z1) r)))))))) ∨ (∃ (r : Unit), (∃ (kp : z11), (True ∧ (z23 ∧ (viewAll kp [(Prod.mk (6 : Nat) z21), (Prod.mk (7 : Nat) (D.v (Value.int IntKind.i64 (itemE z4))))] z8 (Prod.fst (Prod.snd ((fun (x_1 : Unit) => z0) r))) (Prod.snd (Prod.snd ((fun (x_1 : Unit) => z0) r))))))))))))) (True ∧ (True ∧ (z16 ∧ (True ∧ ((((z2 + (3 : Nat)) < z31) ∧ (IsSl z5)) ∧ (True ∧ (True ∧ (True ∧ ((((IOk (cellN z5) (cellL z5)) ∧ ((hL z30) < h)) ∧ ((((0 : Int) ≤ z7) ∧ (z7 ≤ (5 : Int))) ∧ (((0 : Int) ≤ z3) ∧ (z3 ≤ (600 : Int))))) ∧ (True ∧ (True ∧ (True ∧ (True ∧ (True ∧ (True ∧ (True ∧ (pcond (z20 != (0 : Int)) (True ∧ (True ∧ (True ∧ (True ∧ ((∃ (r : Unit), (∃ (kp : z11), (z12 ∧ (z25 ∧ (viewAll kp [z32] z8 (Prod.fst (Prod.snd ((fun (x_1 : Unit) => z1) r))) (Prod.snd (Prod.snd ((fun (x_1 : Unit) => z1) r)))))))) ∨ (∃ (r : Unit), (∃ (kp : z11), (True ∧ (z23 ∧ (viewAll kp [(Prod.mk (6 : Nat) z15), (Prod.mk (7 : Nat) (D.v (Value.int IntKind.i64 z20)))] z8 (Prod.fst (Prod.snd ((fun (x_1 : Unit) => z0) r))) (Prod.snd (Prod.snd ((fun (x_1 : Unit) => z0) r))))))))))))) (True ∧ (True ∧ (True ∧ (True ∧ (True ∧ (∃ (y : Nat), (∃ (kp : z11), (((z17 - y) < (z17 - x)) ∧ ((((y ≤ z17) ∧ ((Prod.snd (chkL (List.take y l) d c)) ≤ (600 : Nat))) ∧ ((Prod.fst (chkL (List.take y l) d c)) = (0 : Int))) ∧ (viewAll kp [z27, z19, (Prod.mk (2 : Nat) z15), (Prod.mk (8 : Nat) (D.v (Value.int IntKind.i64 (IntKind.wrap IntKind.i64 (z22 + (1 : Int))))))] z8 [z27, z19, (Prod.mk (2 : Nat) (D.v (Value.int IntKind.i64 (((Prod.snd (chkL (List.take y l) d c)) : Nat) : Int)))), (Prod.mk (8 : Nat) (D.v (Value.int IntKind.i64 ((y : Nat) : Int))))] z8))))))))))))))))))))))))))))))))))))))))))))) ((∃ (r : Unit), (∃ (kp : z11), (z12 ∧ ((z13 = z13) ∧ (viewAll kp [z26] z8 (Prod.fst (Prod.snd ((fun (x_1 : Unit) => z1) r))) (Prod.snd (Prod.snd ((fun (x_1 : Unit) => z1) r)))))))) ∨ (∃ (r : Unit), (∃ (kp : z11), (True ∧ ((z13 = Exit.ret) ∧ (viewAll kp ([] : List (Prod Nat D)) z8 (Prod.fst (Prod.snd ((fun (x_1 : Unit) => z0) r))) (Prod.snd (Prod.snd ((fun (x_1 : Unit) => z0) r))))))))))))))) (by kernel_rfl) ?_
  simp only [true_and, and_true, and_self, IsInt_lit, IsBool_lit, IsStr_lit, IsSl_lit, cellN_lit, cellL_lit, Bool.not_eq_true', Bool.not_eq_false', Bool.not_true, Bool.not_false, Int.reduceLE, Int.reduceLT, Int.reduceNeg, Nat.le_refl, Int.le_refl, Nat.reduceLT, Nat.reduceLeDiff, Nat.reduceEqDiff, D.v.injEq, D.tup.injEq, D.agg.injEq, D.ro.injEq, List.cons.injEq, Value.int.injEq, Value.bool.injEq, pcond_true, pcond_false, NamelessL, Nameless, Nat.reduceMul, Nat.reduceAdd, Nat.zero_add, Int.toNat_natCast] at *
  obtain ⟨ih, hh, ⟨ho, hlm⟩, hd, hc⟩ := hpre
  obtain ⟨⟨hx, hcc⟩, h0⟩ := hJ
  simp only [maxLen] at hlm
  refine pcond_intro (fun h1 => ?_) (fun h1 => ?_)
  · simp only [decide_eq_true_eq] at h1
    have hxl : x < l.length := by omega
    obtain ⟨g0, g1, g2, g3⟩ := itemsD_get l x hxl
    have hlen := itemsD_length l
    have ox := okL_get l x ho hxl
    obtain ⟨o1, o2, o3, o4⟩ := okI_parts ox
    have hlt := hL_get l x hxl
    have hi : IntKind.i64.wrap ((x : Int) + 1) = ((x + 1 : Nat) : Int) := by rw [wrap_i64_of (by omega) (by omega)]; omega
    have hn : IntKind.i64.wrap (((chkL (l.take x) d c).2 : Nat) + 1) = (((chkL (l.take x) d c).2 + 1 : Nat) : Int) := by rw [wrap_i64_of (by omega) (by omega)]; omega
    have hdd : IntKind.i64.wrap ((d : Int) + 1) = ((d + 1 : Nat) : Int) := by rw [wrap_i64_of (by omega) (by omega)]; omega
    simp only [g0, g1, g2, g3, cellInt_lit, cellN_lit, cellL_lit, cellBool_lit, IsInt_lit, IsSl_lit, IsBool_lit, WOk_lit, IOk_lit, unW_wordsD, unI_itemsD, mk_eta, hi, hn, hdd, Int.toNat_natCast]
    have stop : (chkI (l.getD x default) d (chkL (l.take x) d c).2).1 ≠ 0 → chkL l d c = chkI (l.getD x default) d (chkL (l.take x) d c).2 := chk_stop hxl h0
    have rstop : (chkI (l.getD x default) d (chkL (l.take x) d c).2).1 ≠ 0 → rckL l d c = rckI (l.getD x default) d (chkL (l.take x) d c).2 := rck_stop hxl h0
    have step := chk_step (d := d) (c := c) hxl h0
    have eq := chkI_eq (l.getD x default) d (chkL (l.take x) d c).2
    have req := rckI_eq (l.getD x default) d (chkL (l.take x) d c).2
    have rok := rckI_ok (l.getD x default) d (chkL (l.take x) d c).2
    generalize (chkL (l.take x) d c).2 = cn at *
    have out : ∀ (n : Nat) (e : Int), rckL l d c = n → (chkL l d c).1 = e → viewAll [] [(6, D.v (Value.int IntKind.i64 (n : Int))), (7, D.v (Value.int IntKind.i64 e))] [] [(6, D.v (Value.int IntKind.i64 (rckL l d c : Int))), (7, D.v (Value.int IntKind.i64 (chkL l d c).1))] [] := by
      intro n e h1 h2
      rw [h1, h2]
      refine of_eq (B := letI z0 := (D.v (Value.int IntKind.i64 ((n : Nat) : Int))); letI z1 := (D.v (Value.int IntKind.i64 e)); letI z2 := ([] : List (Option Blk)); ((Bool.true = Bool.true) ∧ ((z2 = z2) ∧ ((True ∧ (z0 = z0)) ∧ ((True ∧ (z1 = z1)) ∧ True))))) (by kernel_rfl) ?_
      simp
    refine pcond_intro (fun h2 => .inr ⟨(), [], out _ _ ?_ ?_⟩) (fun h2 => pcond_intro (fun h3 => .inr ⟨(), [], out _ _ ?_ ?_⟩) (fun h3 => ⟨by omega, ⟨by omega, trivial, trivial, trivial, trivial⟩, ⟨⟨o1, o2, o4⟩, ox⟩, pcond_intro (fun h4 => .inr ⟨(), [], out _ _ ?_ ?_⟩) (fun h4 => ⟨by omega, ⟨by omega, trivial⟩, ⟨⟨⟨o2, o4⟩, by omega⟩, ⟨by omega, ?_⟩, by omega, ?_⟩, ?_⟩)⟩))
    · simp only [decide_eq_true_eq] at h2
      have e1 : chkI (l.getD x default) d cn = (3, cn + 1) := by rw [eq, decide_eq_true (show 600 ≤ cn by omega)]; rfl
      rw [rstop (by rw [e1]; simp), req, decide_eq_true (show 600 ≤ cn by omega)]; rfl
    · simp only [decide_eq_true_eq] at h2
      have e1 : chkI (l.getD x default) d cn = (3, cn + 1) := by rw [eq, decide_eq_true (show 600 ≤ cn by omega)]; rfl
      rw [stop (by rw [e1]; simp), e1]
    · simp only [decide_eq_true_eq, decide_eq_false_iff_not] at h2 h3
      have e1 : chkI (l.getD x default) d cn = (17, cn + 1) := by rw [eq, decide_eq_false (show ¬ 600 ≤ cn by omega), decide_eq_true (show 4 < d by omega)]; rfl
      rw [rstop (by rw [e1]; simp), req, decide_eq_false (show ¬ 600 ≤ cn by omega), decide_eq_true (show 4 < d by omega)]; rfl
    · simp only [decide_eq_true_eq, decide_eq_false_iff_not] at h2 h3
      have e1 : chkI (l.getD x default) d cn = (17, cn + 1) := by rw [eq, decide_eq_false (show ¬ 600 ≤ cn by omega), decide_eq_true (show 4 < d by omega)]; rfl
      rw [stop (by rw [e1]; simp), e1]
    · simp only [decide_eq_false_iff_not] at h2 h3
      rw [bne_iff_ne] at h4
      have e1 : chkI (l.getD x default) d cn = (itemE (l.getD x default), cn + 1) := by rw [eq, decide_eq_false (show ¬ 600 ≤ cn by omega), decide_eq_false (show ¬ 4 < d by omega), decide_eq_false h4]; rfl
      rw [rstop (by rw [e1]; exact h4), req, decide_eq_false (show ¬ 600 ≤ cn by omega), decide_eq_false (show ¬ 4 < d by omega), decide_eq_false h4]; rfl
    · simp only [decide_eq_false_iff_not] at h2 h3
      rw [bne_iff_ne] at h4
      have e1 : chkI (l.getD x default) d cn = (itemE (l.getD x default), cn + 1) := by rw [eq, decide_eq_false (show ¬ 600 ≤ cn by omega), decide_eq_false (show ¬ 4 < d by omega), decide_eq_false h4]; rfl
      rw [stop (by rw [e1]; exact h4), e1]
    · simp only [decide_eq_false_iff_not] at h3; omega
    · simp only [decide_eq_false_iff_not] at h2; omega
    · simp only [decide_eq_false_iff_not] at h2 h3
      rw [bne_eq_false_iff_eq] at h4
      have e1 : chkI (l.getD x default) d cn = chkL (l.getD x default).ks (d + 1) (cn + 1) := by rw [eq, decide_eq_false (show ¬ 600 ≤ cn by omega), decide_eq_false (show ¬ 4 < d by omega), decide_eq_true h4]; rfl
      have e2 : rckI (l.getD x default) d cn = rckL (l.getD x default).ks (d + 1) (cn + 1) := by rw [req, decide_eq_false (show ¬ 600 ≤ cn by omega), decide_eq_false (show ¬ 4 < d by omega), decide_eq_true h4]; rfl
      rw [← e1, ← e2]
      refine pcond_intro (fun h5 => .inr ⟨(), [], ?_⟩) (fun h5 => ⟨x + 1, [], by omega, ⟨⟨by omega, ?_⟩, ?_⟩, ?_⟩)
      · rw [bne_iff_ne] at h5
        exact out _ _ (rstop h5) (by rw [stop h5])
      · rw [bne_eq_false_iff_eq] at h5
        rw [step]; exact chkI_le _ _ _ h5
      · rw [bne_eq_false_iff_eq] at h5
        rw [step]; exact h5
      · rw [bne_eq_false_iff_eq] at h5
        rw [step, rok h5]
        refine of_eq (B := letI z0 := (D.v (Value.int IntKind.i64 (((Prod.snd (chkI (List.getD l x (Inhabited.default)) d cn)) : Nat) : Int))); letI z1 := (D.v (Value.int IntKind.i64 (((x + (1 : Nat)) : Nat) : Int))); letI z2 := (D.v (Value.int IntKind.i64 ((d : Nat) : Int))); letI z3 := (D.ro (List.length l) (itemsD l)); letI z4 := ([] : List (Option Blk)); ((Bool.true = Bool.true) ∧ ((z4 = z4) ∧ ((True ∧ (z3 = z3)) ∧ ((True ∧ (z2 = z2)) ∧ ((True ∧ (z0 = z0)) ∧ ((True ∧ (z1 = z1)) ∧ True))))))) (by kernel_rfl) ?_
        simp
  · simp only [decide_eq_false_iff_not] at h1
    have e : l.take x = l := List.take_of_length_le (by omega)
    rw [e] at h0 ⊢
    refine .inl ⟨(), [], h0, ?_⟩
    refine of_eq (B := letI z0 := (D.v (Value.int IntKind.i64 (((Prod.snd (chkL l d c)) : Nat) : Int))); letI z1 := ([] : List (Option Blk)); ((Bool.true = Bool.true) ∧ ((z1 = z1) ∧ ((True ∧ (z0 = z0)) ∧ True)))) (by kernel_rfl) ?_
    simp
theorem rck_pure (l : List Itm) (d c h : Nat) (hpre : RckIH h ∧ hL l ≤ h ∧ (okL l ∧ l.length ≤ maxLen) ∧ d ≤ 5 ∧ c ≤ 600) : PureJ Try.prog 19 [.ro l.length (itemsD l), .v (.int .i64 (d : Int)), .v (.int .i64 (c : Int))] (.tup [.v (.int .i64 (rckL l d c : Nat)), .v (.int .i64 (chkL l d c).1)]) := by
  refine pureJ_of_vcp (call := noCalls) (lp := fun k => bif Nat.beq k 2 then some (lp_rckLoop l d c h) else none) (N := 10) T_ok mixed noCalls_ok Try.func19 rfl (by decide) (by kernel_rfl) (by kernel_rfl) (of_eq (B := LRuleP Try.prog Try.f19.ntmps (loopAt ((Try.f19.body).getD .skip) 2) (lp_rckLoop l d c h) ∧ True) (by kernel_rfl) ⟨rckLoop_rule l d c h hpre, trivial⟩) (by first | exact ⟨itemsD_nl l, trivial, trivial, trivial⟩ | trivial | simp [NamelessL, Nameless]) (by first | exact ⟨itemsD_nl l, trivial, trivial, trivial⟩ | trivial | simp [NamelessL, Nameless]) ?_
  refine of_eq (B := letI z7 := (Prod.fst (chkL l d c)); letI z0 := (D.tup [(D.v (Value.int IntKind.i64 (((rckL l d c) : Nat) : Int))), (D.v (Value.int IntKind.i64 z7))]); letI z1 := (D.v (Value.int IntKind.i64 (0 : Int))); letI z2 := (chkL ([] : List Itm) d c); letI z3 := (D.v (Value.int IntKind.i64 ((d : Nat) : Int))); letI z4 := (D.ro (List.length l) (itemsD l)); letI z5 := (True ∧ (True ∧ True)); letI z6 := ([] : List (Option Blk)); (True ∧ (True ∧ (True ∧ (((((0 : Nat) ≤ (List.length l)) ∧ ((Prod.snd z2) ≤ (600 : Nat))) ∧ ((Prod.fst z2) = (0 : Int))) ∧ (((Bool.true = Bool.true) ∧ ((z6 = z6) ∧ ((True ∧ (z4 = z4)) ∧ ((True ∧ (z3 = z3)) ∧ ((True ∧ ((D.v (Value.int IntKind.i64 ((c : Nat) : Int))) = (D.v (Value.int IntKind.i64 (((Prod.snd z2) : Nat) : Int))))) ∧ ((True ∧ (z1 = z1)) ∧ True)))))) ∧ ((Unit → ((z7 = (0 : Int)) → (True ∧ (True ∧ (True ∧ (True ∧ (z5 ∧ ((D.tup [(D.v (Value.int IntKind.i64 (((Prod.snd (chkL l d c)) : Nat) : Int))), z1]) = z0)))))))) ∧ (Unit → (True → (True ∧ (z5 ∧ (z0 = z0)))))))))))) (by kernel_rfl) ?_
  simp only [true_and, and_true, and_self, IsInt_lit, IsBool_lit, IsStr_lit, IsSl_lit, cellN_lit, cellL_lit, Bool.not_eq_true', Bool.not_eq_false', Bool.not_true, Bool.not_false, Int.reduceLE, Int.reduceLT, Int.reduceNeg, Nat.le_refl, Int.le_refl, Nat.reduceLT, Nat.reduceLeDiff, Nat.reduceEqDiff, D.v.injEq, D.tup.injEq, D.agg.injEq, D.ro.injEq, List.cons.injEq, Value.int.injEq, Value.bool.injEq, pcond_true, pcond_false, NamelessL, Nameless, Nat.reduceMul, Nat.reduceAdd, Nat.zero_add, Int.toNat_natCast]
  obtain ⟨ih, hh, ⟨ho, hlm⟩, hd, hc⟩ := hpre
  refine ⟨⟨⟨Nat.zero_le _, by simpa [chkL] using hc⟩, by simp [chkL]⟩, by simp [chkL], fun _ h0 => ⟨by rw [rckL_ok _ _ _ h0], h0.symm⟩, fun _ _ => trivial⟩
theorem rck_all : ∀ h, RckIH h := by
  intro h
  induction h with
  | zero => intro l d c hl; omega
  | succ h ih => intro l d c h1 h2 h3 h4; exact rck_pure l d c h ⟨ih, by omega, h2, h3, h4⟩
theorem rCheck_pure (l : List Itm) (hpre : okL l ∧ l.length ≤ maxLen) : PureJ Try.prog 9 [.ro l.length (itemsD l)] (.v (.int .i64 (chkE l))) := by
  refine pureJ_of_vcx (call := (addPure 19 (ent_rckR (hL l + 1)) noCalls)) (lp := fun _ => none) (N := 10) T_ok mixed (addPure_ok (ent_rckR_ok (hL l + 1) (rck_all (hL l + 1))) noCalls_ok) Try.func9 rfl (by decide) (by kernel_rfl) (by kernel_rfl) (LpAll.none _) (by first | exact ⟨itemsD_nl l, trivial⟩ | trivial | simp [NamelessL, Nameless]) (by first | exact ⟨itemsD_nl l, trivial⟩ | trivial | simp [NamelessL, Nameless]) ?_
  refine of_eq (B := letI z0 := ((0 : Int) ≤ (0 : Int)); (True ∧ (True ∧ ((((IOk (List.length l) (itemsD l)) ∧ ((hL (unI (itemsD l))) < ((hL l) + (1 : Nat)))) ∧ ((z0 ∧ ((0 : Int) ≤ (5 : Int))) ∧ (z0 ∧ ((0 : Int) ≤ (600 : Int))))) ∧ (True ∧ (True ∧ (True ∧ (True ∧ (True ∧ (True ∧ (True ∧ (True ∧ (True ∧ ((D.v (Value.int IntKind.i64 (Prod.fst (chkL (unI (itemsD l)) (0 : Nat) (0 : Nat))))) = (D.v (Value.int IntKind.i64 (chkE l))))))))))))))))) (by kernel_rfl) ?_
  simp only [true_and, and_true, and_self, IsInt_lit, IsBool_lit, IsStr_lit, IsSl_lit, cellN_lit, cellL_lit, Bool.not_eq_true', Bool.not_eq_false', Bool.not_true, Bool.not_false, Int.reduceLE, Int.reduceLT, Int.reduceNeg, Nat.le_refl, Int.le_refl, Nat.reduceLT, Nat.reduceLeDiff, Nat.reduceEqDiff, D.v.injEq, D.tup.injEq, D.agg.injEq, D.ro.injEq, List.cons.injEq, Value.int.injEq, Value.bool.injEq, pcond_true, pcond_false, NamelessL, Nameless, Nat.reduceMul, Nat.reduceAdd, Nat.zero_add, Int.toNat_natCast, IOk_lit, unI_itemsD]
  exact ⟨⟨⟨hpre.2, hpre.1⟩, Nat.lt_succ_self _⟩, rfl⟩
def ent_rCheck : Ent := ent_hCheck
theorem ent_rCheck_ok : EntOk Try.prog 9 ent_rCheck := by
  intro ds d c hd hc; unfold ent_rCheck ent_hCheck at hd; split at hd
  · obtain ⟨rfl, rfl⟩ := pair_inj hd
    obtain ⟨⟨h1, h2⟩, h3, h4⟩ := hc
    rename_i n ys
    generalize unI ys = l at *
    subst h1; subst h2
    exact rCheck_pure l ⟨h4, h3⟩
  · cases hd
end Go.Proofs.Ytahiigfpikohgaa
end
section
namespace Go.Proofs.Ytahiigfpikohgaa
open Go.VD Go.RowKit
set_option linter.unusedVariables false
set_option linter.unusedSimpArgs false
set_option maxRecDepth 100000
theorem bld_size : (Try.prog.info? 44).map (·.size) = some 2 := by kernel_rfl
theorem bld_lies : liesAt Try.prog Try.prog.depth 44 (2 / Try.prog.cellsOf 44) 0 44 1 = true := by kernel_rfl
theorem bp_under : Try.prog.underlying 41 = some (.pointer 44) := by kernel_rfl
theorem up_under : Try.prog.underlying 84 = some .unsafePointer := by kernel_rfl
set_option maxHeartbeats 4000000 in
theorem cc_used (b : Nat) (w : World) (h0 : w.cell? ⟨b, 0, none⟩ = some (.pointer (some ⟨b, 0, none⟩))) :
    Calls Try.prog 41 #[.pointer (some ⟨b, 0, none⟩)] w fun e w' => e = .returned (.tuple #[]) ∧ w' = w := by
  obtain ⟨j, hj, _⟩ := Option.map_eq_some_iff.1 bld_size
  go_enter Try.func41, Try.ntmps41
  go_wp2
  rw [Lib.run_neq_ptr_same w _ bp_under hj]
  go_wp2
  go_end0
  exact ⟨rfl, rfl⟩
set_option maxHeartbeats 4000000 in
theorem cc_fresh (b : Nat) (w : World) (h0 : w.cell? ⟨b, 0, none⟩ = some (.pointer none)) (hsh : w.shape? b = some (44, 2)) (hfz : w.frozen? ⟨b, 0, none⟩ = false) :
    Calls Try.prog 41 #[.pointer (some ⟨b, 0, none⟩)] w fun e w' => e = .returned (.tuple #[]) ∧ w' = w.setCell ⟨b, 0, none⟩ (.pointer (some ⟨b, 0, none⟩)) := by
  obtain ⟨j, hj, hjs⟩ := Option.map_eq_some_iff.1 bld_size
  go_enter Try.func41, Try.ntmps41
  go_wp2
  rw [Lib.run_to_unsafe w ⟨b, 0, none⟩ bp_under up_under hj (by rw [hjs]; decide) hsh (Nat.zero_lt_succ 1)]
  simp only [Result.andThen]
  rw [Oper.upon_value]
  go_wp2
  rw [run_callFunc_extern Try.func52 (by kernel_rfl) (by kernel_rfl) (by kernel_rfl) (e := Extern.AbiNoEscape.same) (by kernel_rfl)]
  rw [Lib.run_noEscape]
  simp only [Result.andThen]
  rw [Oper.upon_value]
  go_wp2
  rw [Lib.run_from_unsafe w ⟨b, 0, none⟩ up_under bp_under hj hsh bld_lies]
  simp only [Result.andThen]
  rw [Oper.upon_value]
  go_wp2
  go_end0
  exact ⟨rfl, rfl⟩
end Go.Proofs.Ytahiigfpikohgaa
end
section
namespace Go.Proofs.Ytahiigfpikohgaa
open Go.VD Go.RowKit
set_option linter.unusedVariables false
set_option linter.unusedSimpArgs false
set_option maxRecDepth 100000
def bytD (l : List UInt8) : List D := l.map fun b => .v (.int .u8 (b.toNat : Nat))
theorem bytD_str (s : ByteArray) : strD s = bytD s.data.toList := rfl
theorem bytD_length (l : List UInt8) : (bytD l).length = l.length := by simp [bytD]
theorem bytD_nl (l : List UInt8) : NamelessL (bytD l) := NamelessL.map _ (fun _ => by simp [Nameless]) l
theorem bytD_app (a b : List UInt8) : bytD (a ++ b) = bytD a ++ bytD b := by simp [bytD]
theorem bytD_names (l : List UInt8) : namesD.namesA (bytD l) = [] := by
  induction l with
  | nil => rfl
  | cons b r ih => simp only [bytD, List.map_cons, namesD.namesA, namesD, List.nil_append]; exact ih
theorem bytD_rn (g : Nat → Nat) (l : List UInt8) : rnL g (bytD l) = bytD l := by
  induction l with
  | nil => rfl
  | cons b r ih => simp only [bytD, List.map_cons, rnL, rnD]; rw [show rnL g (List.map _ r) = _ from ih]; rfl
def AdrOk (b : Nat) (a : D) : Prop := a = .v (.pointer none) ∨ a = .ptr b 0
theorem cc_call {H : Heap} {b : Nat} {a x : D} (hb : H[b]? = some (some ⟨44, [a, x], true⟩)) (ha : AdrOk b a) :
    CallJ Try.prog 41 [.ptr b 0] H (.tup []) (H.set b (some ⟨44, [.ptr b 0, x], true⟩)) := by
  refine ⟨⟨_, Try.func41, by kernel_rfl, by kernel_rfl⟩, fun ρ S w vals hS hv => ?_⟩
  have hvals : vals = [.pointer (some ⟨(ρ b).1, 0, none⟩)] := by
    simp only [RdT, Rd] at hv
    obtain ⟨u, r, rfl, ⟨_, rfl⟩, rfl⟩ := hv
    rfl
  subst hvals
  have hz : 0 < (ρ b).2 := Nat.pos_of_ne_zero fun h0 => by have := hS.none b _ hb h0; cases this
  obtain ⟨cur, hc⟩ := hS.blk b _ hb hz
  have hit : 44 ≠ itTy := by decide
  have hh : w.heap[(ρ b).1]? = some (.cells cur 44 (0, 0)) := hc.heap.cells hit
  have hsz : cur.size = 2 := (hc.full rfl).symm
  obtain ⟨u, ux, rfl⟩ : ∃ u ux, cur = #[u, ux] := by
    obtain ⟨l⟩ := cur
    match l, hsz with
    | [u, ux], _ => exact ⟨u, ux, rfl⟩
  have hpre := hc.pre
  simp only [List.length_cons, List.length_nil, List.take_succ_cons, List.take_zero, RdL] at hpre
  obtain ⟨u1, r1, e1, o1, k1, u2, r2, e2, o2, k2, e3⟩ := hpre
  simp only [List.cons.injEq] at e1 e2
  obtain ⟨rfl, rfl⟩ := e1
  simp only [List.cons.injEq] at e2
  obtain ⟨rfl, rfl⟩ := e2
  rcases ha with rfl | rfl
  · simp only [Rd] at k1
    subst k1
    refine (cc_fresh (ρ b).1 w (by simp [World.cell?, hh]) (by simp [World.shape?, hh]) (by simp [World.frozen?, hh])).mono ?_
    rintro e w' ⟨rfl, rfl⟩
    have hne : ∀ k, k ≠ (ρ b).1 → (w.setCell ⟨(ρ b).1, 0, none⟩ (.pointer (some ⟨(ρ b).1, 0, none⟩))).heap[k]? = w.heap[k]? := fun k hk => Below.heap_setCell _ _ _ _ (fun e => hk (by simp [e]))
    have hle : (ctx ρ S w H).le (ctx ρ S (w.setCell ⟨(ρ b).1, 0, none⟩ (.pointer (some ⟨(ρ b).1, 0, none⟩))) (H.set b (some ⟨44, [.ptr b 0, x], true⟩))) :=
      le_write hS.sub hb hz (by simp [World.setCell]) hne rfl rfl rfl
    refine ⟨_, ρ, S, rfl, hS.write (cur := #[.pointer (some ⟨(ρ b).1, 0, none⟩), ux]) hit hb hz (by simp [World.setCell]) hne rfl rfl rfl (by simp [World.setCell, Array.getElem?_modify, hh]) hc.size ?_ (fun _ => rfl), hle, by simp [Rd, RdT]⟩
    simp only [List.length_cons, List.length_nil, List.take_succ_cons, List.take_zero, RdL]
    exact ⟨_, _, rfl, rfl, by simp only [Rd, and_true]; exact (List.getElem?_eq_some_iff.1 hb).1, ux, [], rfl, o2, k2, rfl⟩
  · simp only [Rd] at k1
    obtain ⟨_, k1⟩ := k1
    subst k1
    refine (cc_used (ρ b).1 w (by simp [World.cell?, hh])).mono ?_
    rintro e w' ⟨rfl, rfl⟩
    rw [set_same hb]
    exact ⟨_, ρ, S, rfl, hS, Ctx.le.refl _, by simp [Rd, RdT]⟩
def entc_cc : EntC := fun ds H => match ds with
  | [.ptr b 0] => match blkAt H b with
    | some ⟨t, [a, x], true⟩ => some (.tup [], H.set b (some ⟨t, [.ptr b 0, x], true⟩), t = 44 ∧ AdrOk b a)
    | _ => none
  | _ => none
theorem entc_cc_ok : EntCOk Try.prog 41 entc_cc := by
  intro ds H d H' p hd hc; unfold entc_cc at hd; split at hd
  · split at hd
    · rename_i hb
      injection hd with hd
      simp only [Prod.mk.injEq] at hd
      obtain ⟨rfl, rfl, rfl⟩ := hd
      obtain ⟨rfl, ha⟩ := hc
      exact cc_call (blkAt_some hb) ha
    · cases hd
  · cases hd
theorem wstr_call (s : List UInt8) (t : ByteArray) (a : D) (f : Bool) (hpre : AdrOk 0 a ∧ s.length + t.size ≤ 140737488355328) : CallJ Try.prog 30 [.ptr 0 0, .v (.string t)] ([some ⟨44, [a, .sl 1 0 s.length (.toEnd 1)], true⟩, some ⟨5, bytD s, f⟩]) (.tup [.v (.int .i64 (t.size : Nat)), .v .nilIface]) ([some ⟨44, [.ptr 0 0, .sl 2 0 (s.length + t.size) (.toEnd 1)], true⟩, none, some ⟨5, bytD (s ++ t.data.toList), false⟩]) := by
  refine callJ_of_vck (k := 2) (call := (addCall 41 (entc_cc) noCalls)) (lp := fun _ => none) (N := 10) T_ok mixed (addCall_ok (entc_cc_ok) noCalls_ok) Try.func30 rfl (by decide) (by kernel_rfl) (by kernel_rfl) rfl (LpAllK.none _) ?_
  refine of_eq (B := letI z3 := List.length s; letI z0 := (z3 + (ByteArray.size t)); letI z1 := (D.tup [(D.v (Value.int IntKind.i64 (((ByteArray.size t) : Nat) : Int))), (D.v Value.nilIface)]); letI z2 := (D.sl (2 : Nat) (0 : Nat) z0 (Cap.toEnd (1 : Nat))); letI z4 := (D.ptr (0 : Nat) (0 : Nat)); letI z5 := ((1 : Nat) = (1 : Nat)); (True ∧ (True ∧ (True ∧ ((((44 : Nat) = (44 : Nat)) ∧ (AdrOk (0 : Nat) a)) ∧ (True ∧ (True ∧ (True ∧ (True ∧ (((1 : Nat) < (2 : Nat)) ∧ (True ∧ ((z5 ∧ (((5 : Nat) = (5 : Nat)) ∧ ((z3 ≤ (List.length (bytD s))) ∧ ((z0 ≤ (9223372036854775807 : Nat)) ∧ (z0 ≤ (140737488355328 : Nat)))))) ∧ (True ∧ (True ∧ ((z5 ∧ ((2 : Nat) ≤ (2 : Nat))) ∧ (True ∧ (True ∧ (True ∧ (True ∧ (True ∧ (∃ (kp : (List KE)), (viewFin (2 : Nat) kp [(Option.some (Blk.mk (44 : Nat) [z4, z2] Bool.true)), (Option.none), (Option.some (Blk.mk (5 : Nat) ((List.take z3 (bytD s)) ++ (strD t)) Bool.false))] z1 z1 [(Option.some (Blk.mk (44 : TypeId) [z4, z2] Bool.true)), (Option.none), (Option.some (Blk.mk (5 : TypeId) (bytD (s ++ (Array.toList (ByteArray.data t)))) Bool.false))])))))))))))))))))))))) (by kernel_rfl) ?_
  simp only [true_and, and_true, and_self, IsInt_lit, IsBool_lit, IsStr_lit, IsSl_lit, cellN_lit, cellL_lit, Bool.not_eq_true', Bool.not_eq_false', Bool.not_true, Bool.not_false, Int.reduceLE, Int.reduceLT, Int.reduceNeg, Nat.le_refl, Int.le_refl, Nat.reduceLT, Nat.reduceLeDiff, Nat.reduceEqDiff, D.v.injEq, D.tup.injEq, D.agg.injEq, D.ro.injEq, List.cons.injEq, Value.int.injEq, Value.bool.injEq, pcond_true, pcond_false, NamelessL, Nameless, Nat.reduceMul, Nat.reduceAdd, Nat.zero_add, Int.toNat_natCast]
  refine ⟨hpre.1, ⟨by rw [bytD_length]; exact Nat.le_refl _, by omega, hpre.2⟩, [.nam 0, .dead, .old 2], ?_⟩
  rw [List.take_of_length_le (by rw [bytD_length]; exact Nat.le_refl _), bytD_str, ← bytD_app]
  refine of_eq (B := letI z0 := (D.tup [(D.v (Value.int IntKind.i64 (((ByteArray.size t) : Nat) : Int))), (D.v Value.nilIface)]); letI z1 := (bytD (s ++ (Array.toList (ByteArray.data t)))); letI z2 := (D.sl (2 : Nat) (0 : Nat) ((List.length s) + (ByteArray.size t)) (Cap.toEnd (1 : Nat))); letI z3 := (Option.some (Blk.mk (5 : Nat) z1 Bool.false)); letI z4 := (D.ptr (0 : Nat) (0 : Nat)); letI z5 := ([] : List (Option Blk)); letI z6 := Bool.true = Bool.true; (z6 ∧ ((((((44 : Nat) = (44 : Nat)) ∧ z6) ∧ ((True ∧ (z4 = z4)) ∧ ((True ∧ (z2 = z2)) ∧ (([] : List D) = ([] : List D))))) ∧ (((z3 = z3) ∧ (NamelessL z1)) ∧ (z5 = z5))) ∧ ((True ∧ (True ∧ True)) ∧ (z0 = z0))))) (by kernel_rfl) ?_
  simp [bytD_nl]
theorem wbyte_call (s : List UInt8) (c : UInt8) (a : D) (f : Bool) (hpre : AdrOk 0 a ∧ s.length + 1 ≤ 140737488355328) : CallJ Try.prog 31 [.ptr 0 0, .v (.int .u8 (c.toNat : Nat))] ([some ⟨44, [a, .sl 1 0 s.length (.toEnd 1)], true⟩, some ⟨5, bytD s, f⟩]) (.v .nilIface) ([some ⟨44, [.ptr 0 0, .sl 2 0 (s.length + 1) (.toEnd 1)], true⟩, none, some ⟨5, bytD (s ++ [c]), false⟩]) := by
  refine callJ_of_vck (k := 2) (call := (addCall 41 (entc_cc) noCalls)) (lp := fun _ => none) (N := 10) T_ok mixed (addCall_ok (entc_cc_ok) noCalls_ok) Try.func31 rfl (by decide) (by kernel_rfl) (by kernel_rfl) rfl (LpAllK.none _) ?_
  refine of_eq (B := letI z0 := ((List.length s) + (1 : Nat)); letI z1 := (D.v (Value.int IntKind.u8 (((UInt8.toNat c) : Nat) : Int))); letI z2 := ((List.length s) * (1 : Nat)); letI z3 := (9223372036854775807 : Nat); letI z4 := (D.ptr (0 : Nat) (0 : Nat)); letI z5 := ((1 : Nat) = (1 : Nat)); letI z6 := (Cap.toEnd (1 : Nat)); letI z7 := D.v Value.nilIface; (True ∧ (True ∧ ((((44 : Nat) = (44 : Nat)) ∧ (AdrOk (0 : Nat) a)) ∧ (True ∧ (True ∧ (True ∧ (True ∧ (((1 : Nat) < (2 : Nat)) ∧ (True ∧ ((((1 : Nat) ≤ (16777216 : Nat)) ∧ ((1 : Nat) ≤ z3)) ∧ ((((1 : Nat) ≤ (1 : Nat)) ∧ (((42 : Nat) = (42 : Nat)) ∧ (z5 ∧ (((5 : Nat) = (5 : Nat)) ∧ ((z2 ≤ (List.length (bytD s))) ∧ (((0 : Nat) < (1 : Nat)) ∧ ((z0 ≤ z3) ∧ ((z0 * (1 : Nat)) ≤ (140737488355328 : Nat))))))))) ∧ (True ∧ (True ∧ ((z5 ∧ ((2 : Nat) ≤ (2 : Nat))) ∧ (True ∧ (True ∧ (∃ (kp : (List KE)), (viewFin (2 : Nat) kp [(Option.some (Blk.mk (44 : Nat) [z4, (D.sl (3 : Nat) (0 : Nat) z0 z6)] Bool.true)), (Option.none), (Option.some (Blk.mk (5 : Nat) [z1] Bool.true)), (Option.some (Blk.mk (5 : Nat) ((List.take z2 (bytD s)) ++ [z1]) Bool.false))] z7 z7 [(Option.some (Blk.mk (44 : TypeId) [z4, (D.sl (2 : Nat) (0 : Nat) z0 z6)] Bool.true)), (Option.none), (Option.some (Blk.mk (5 : TypeId) (bytD (s ++ [c])) Bool.false))]))))))))))))))))))) (by kernel_rfl) ?_
  simp only [true_and, and_true, and_self, IsInt_lit, IsBool_lit, IsStr_lit, IsSl_lit, cellN_lit, cellL_lit, Bool.not_eq_true', Bool.not_eq_false', Bool.not_true, Bool.not_false, Int.reduceLE, Int.reduceLT, Int.reduceNeg, Nat.le_refl, Int.le_refl, Nat.reduceLT, Nat.reduceLeDiff, Nat.reduceEqDiff, D.v.injEq, D.tup.injEq, D.agg.injEq, D.ro.injEq, List.cons.injEq, Value.int.injEq, Value.bool.injEq, pcond_true, pcond_false, NamelessL, Nameless, Nat.reduceMul, Nat.reduceAdd, Nat.zero_add, Int.toNat_natCast]
  refine ⟨hpre.1, ⟨by rw [bytD_length]; omega, by omega, by omega⟩, [.nam 0, .dead, .old 3], ?_⟩
  rw [Nat.mul_one, List.take_of_length_le (by rw [bytD_length]; exact Nat.le_refl _), show [D.v (Value.int IntKind.u8 (c.toNat : Int))] = bytD [c] from rfl, ← bytD_app]
  refine of_eq (B := letI z0 := (D.sl (2 : Nat) (0 : Nat) ((List.length s) + (1 : Nat)) (Cap.toEnd (1 : Nat))); letI z1 := (Option.some (Blk.mk (5 : Nat) (bytD (s ++ [c])) Bool.false)); letI z2 := (D.ptr (0 : Nat) (0 : Nat)); letI z3 := ([] : List (Option Blk)); letI z4 := Bool.true = Bool.true; letI z5 := D.v Value.nilIface; (z4 ∧ ((((((44 : Nat) = (44 : Nat)) ∧ z4) ∧ ((True ∧ (z2 = z2)) ∧ ((True ∧ (z0 = z0)) ∧ (([] : List D) = ([] : List D))))) ∧ (((z1 = z1) ∧ (NamelessL (bytD (s ++ [c])))) ∧ (z3 = z3))) ∧ (True ∧ (z5 = z5))))) (by kernel_rfl) ?_
  simp [bytD_nl]
theorem AdrOk_small {b : Nat} {a : D} (h : AdrOk b a) : ∃ a', AdrOk 0 a' ∧ (∀ σ m, rnD (gOf (b :: σ) m) a' = a) ∧ ∀ c ∈ namesD a', c = 0 := by
  rcases h with rfl | rfl
  · exact ⟨.v (.pointer none), .inl rfl, fun _ _ => rfl, by simp [namesD]⟩
  · exact ⟨.ptr 0 0, .inr rfl, fun σ m => by simp [rnD, gOf], by simp [namesD]⟩
theorem bld_frame {f : FuncId} {H : Heap} {b b1 : Nat} {a d : D} {fl fl' : Bool} {s s' : List UInt8} {plain : List D}
    (small : ∀ a', AdrOk 0 a' → CallJ Try.prog f (.ptr 0 0 :: plain) [some ⟨44, [a', .sl 1 0 s.length (.toEnd 1)], true⟩, some ⟨5, bytD s, fl⟩] d [some ⟨44, [.ptr 0 0, .sl 2 0 s'.length (.toEnd 1)], true⟩, none, some ⟨5, bytD s', fl'⟩])
    (h1 : namesD.namesA plain = []) (h2 : ∀ g, rnL g plain = plain) (h3 : ∀ g, rnD g d = d) (ha : AdrOk b a)
    (hb : H[b]? = some (some ⟨44, [a, .sl b1 0 s.length (.toEnd 1)], true⟩)) (hb1 : H[b1]? = some (some ⟨5, bytD s, fl⟩)) (hne : b ≠ b1) :
    CallJ Try.prog f (.ptr b 0 :: plain) H d ((H.set b (some ⟨44, [.ptr b 0, .sl H.length 0 s'.length (.toEnd 1)], true⟩)).set b1 none ++ [some ⟨5, bytD s', fl'⟩]) := by
  obtain ⟨a', ha', hr, hn⟩ := AdrOk_small ha
  have hlb := (List.getElem?_eq_some_iff.1 hb).1
  have hlb1 := (List.getElem?_eq_some_iff.1 hb1).1
  have g0 : gOf [b, b1] H.length 0 = b := by simp [gOf]
  have g1 : gOf [b, b1] H.length 1 = b1 := by simp [gOf]
  have g2 : gOf [b, b1] H.length 2 = H.length := by simp [gOf]
  have key := (small a' ha').frames (σ := [b, b1]) (B := H) rfl (by simpa using hne) (by simp [hlb, hlb1]) (fun i blk hi => by
    match i, hi with
    | 0, hi =>
      simp only [List.getElem?_cons_zero, Option.some.injEq] at hi; subst hi
      refine ⟨b, rfl, ?_, ?_⟩
      · rw [hb]; simp only [rnB, rnL, rnD, hr, g1]
      · simp only [namesD.namesA, namesD, List.append_nil, List.mem_append, List.mem_singleton, List.length_cons, List.length_nil]
        rintro c (h | h)
        · have := hn c h; omega
        · omega
    | 1, hi =>
      simp only [List.getElem?_cons_succ, List.getElem?_cons_zero, Option.some.injEq] at hi; subst hi
      exact ⟨b1, rfl, by rw [hb1]; simp only [rnB, bytD_rn], by rw [bytD_names]; simp⟩
    | i + 2, hi => simp at hi) (by simp [namesD.namesA, namesD, h1])
  have e : frH [b, b1] H [some ⟨44, [.ptr 0 0, .sl 2 0 s'.length (.toEnd 1)], true⟩, none, some ⟨5, bytD s', fl'⟩] =
      (H.set b (some ⟨44, [.ptr b 0, .sl H.length 0 s'.length (.toEnd 1)], true⟩)).set b1 none ++ [some ⟨5, bytD s', fl'⟩] := by
    simp only [frH, List.map_cons, List.map_nil, Option.map_some, Option.map_none, rnB, rnL, rnD, bytD_rn, g0, g2, setAt, List.length_cons, List.length_nil, List.drop_succ_cons, List.drop_zero]
  rw [e] at key
  simpa only [rnL, rnD, g0, h2, h3] using key
def unB (l : List D) : List UInt8 := l.map fun d => UInt8.ofNat (cellInt d).toNat
theorem unB_bytD (l : List UInt8) : unB (bytD l) = l := by
  simp only [unB, bytD, List.map_map]
  conv => rhs; rw [← List.map_id l]
  refine List.map_congr_left fun b _ => ?_
  simp [cellInt]
def BOk (n : Nat) (cs : List D) : Prop := cs = bytD (unB cs) ∧ n = (unB cs).length
theorem BOk_lit (l : List UInt8) : BOk l.length (bytD l) = True := by simp [BOk, unB_bytD]
def entc_wstr : EntC := fun ds H => match ds with
  | [.ptr b 0, .v (.string t)] => match blkAt H b with
    | some ⟨ty, [a, .sl b1 0 n (.toEnd 1)], true⟩ => match blkAt H b1 with
      | some ⟨ty1, cs, f⟩ => some (.tup [.v (.int .i64 (t.size : Nat)), .v .nilIface], (H.set b (some ⟨ty, [.ptr b 0, .sl H.length 0 (unB cs ++ t.data.toList).length (.toEnd 1)], true⟩)).set b1 none ++ [some ⟨ty1, bytD (unB cs ++ t.data.toList), false⟩],
          ((ty = 44 ∧ ty1 = 5 ∧ b ≠ b1) ∧ AdrOk b a) ∧ BOk n cs ∧ n + t.size ≤ 140737488355328)
      | none => none
    | _ => none
  | _ => none
theorem entc_wstr_ok : EntCOk Try.prog 30 entc_wstr := by
  intro ds H d H' p hd hc; unfold entc_wstr at hd; split at hd
  · rename_i b t
    split at hd
    · rename_i ty a b1 n hb
      split at hd
      · rename_i ty1 cs f hb1
        injection hd with hd
        simp only [Prod.mk.injEq] at hd
        obtain ⟨rfl, rfl, rfl⟩ := hd
        obtain ⟨⟨⟨rfl, rfl, hne⟩, ha⟩, ⟨h1, h2⟩, h3⟩ := hc
        generalize unB cs = s at *
        subst h1; subst h2
        refine bld_frame (fun a' ha' => ?_) (by simp [namesD.namesA, namesD]) (fun g => rfl) (fun g => rfl) ha (blkAt_some hb) (blkAt_some hb1) hne
        have := wstr_call s t a' f ⟨ha', h3⟩
        rwa [show s.length + t.size = (s ++ t.data.toList).length from by rw [List.length_append, size_list]] at this
      · cases hd
    · cases hd
  · cases hd
def entc_wbyte : EntC := fun ds H => match ds with
  | [.ptr b 0, .v (.int .u8 c)] => match blkAt H b with
    | some ⟨ty, [a, .sl b1 0 n (.toEnd 1)], true⟩ => match blkAt H b1 with
      | some ⟨ty1, cs, f⟩ => some (.v .nilIface, (H.set b (some ⟨ty, [.ptr b 0, .sl H.length 0 (unB cs ++ [UInt8.ofNat c.toNat]).length (.toEnd 1)], true⟩)).set b1 none ++ [some ⟨ty1, bytD (unB cs ++ [UInt8.ofNat c.toNat]), false⟩],
          ((ty = 44 ∧ ty1 = 5 ∧ b ≠ b1) ∧ AdrOk b a) ∧ (BOk n cs ∧ n + 1 ≤ 140737488355328) ∧ 0 ≤ c ∧ c < 256)
      | none => none
    | _ => none
  | _ => none
theorem entc_wbyte_ok : EntCOk Try.prog 31 entc_wbyte := by
  intro ds H d H' p hd hc; unfold entc_wbyte at hd; split at hd
  · rename_i b c
    split at hd
    · rename_i ty a b1 n hb
      split at hd
      · rename_i ty1 cs f hb1
        injection hd with hd
        simp only [Prod.mk.injEq] at hd
        obtain ⟨rfl, rfl, rfl⟩ := hd
        obtain ⟨⟨⟨rfl, rfl, hne⟩, ha⟩, ⟨⟨h1, h2⟩, h3⟩, c1, c2⟩ := hc
        generalize unB cs = s at *
        subst h1; subst h2
        obtain ⟨cn, rfl⟩ := Int.eq_ofNat_of_zero_le c1
        have hcn : (UInt8.ofNat cn).toNat = cn := by simp; omega
        refine bld_frame (fun a' ha' => ?_) (by simp [namesD.namesA, namesD]) (fun g => rfl) (fun g => rfl) ha (blkAt_some hb) (blkAt_some hb1) hne
        have := wbyte_call s (UInt8.ofNat cn) a' f ⟨ha', h3⟩
        rw [hcn] at this
        rwa [show s.length + 1 = (s ++ [UInt8.ofNat cn]).length from by simp] at this
      · cases hd
    · cases hd
  · cases hd
end Go.Proofs.Ytahiigfpikohgaa
end
section
namespace Go.Proofs.Ytahiigfpikohgaa
open Go.VD Go.RowKit
set_option linter.unusedVariables false
set_option linter.unusedSimpArgs false
set_option maxRecDepth 100000
theorem byte_under : Try.prog.underlying 66 = some (.pointer 5) := by kernel_rfl
theorem byte_cells : Try.prog.cellsOf 5 = 1 := by kernel_rfl
set_option maxHeartbeats 4000000 in
theorem str_full (b g cap : Nat) (p : Value) (cur : Array Value) (l : List UInt8) (w : World) (h0 : l ≠ []) (hcap : l.length ≤ cap) (hcm : cap ≤ maxLen) (hsz : cur.size = cap)
    (hb : w.heap[b]? = some (.cells #[p, .slice (some ⟨g, 0, none⟩) l.length cap] 44 (0, 0))) (hg : w.heap[g]? = some (.cells cur 5 (0, 0))) (ht : cur.toList.take l.length = Lib.byteCells l) :
    Calls Try.prog 21 #[.pointer (some ⟨b, 0, none⟩)] w fun e w' => e = .returned (.string ⟨l.toArray⟩) ∧ w' = w.drew.freeze ⟨g, 0, none⟩ l.length := by
  have hpos : 0 < l.length := List.length_pos_iff.2 h0
  have c1 : w.drew.cell? ⟨b, 1, none⟩ = some (.slice (some ⟨g, 0, none⟩) l.length cap) := by
    have : w.drew.heap[b]? = some (.cells #[p, .slice (some ⟨g, 0, none⟩) l.length cap] 44 (0, 0)) := hb
    rw [Lib.cell_of_heap this]; rfl
  have hg' : w.drew.heap[g]? = some (.cells cur 5 (0, 0)) := hg
  have hSD : (Builtin.unsafeSliceData_ #[42] 66 #[.slice (some ⟨g, 0, none⟩) l.length cap]).run Try.prog w.drew = .ok (.pointer (some ⟨g, 0, none⟩)) w.drew :=
    Lib.run_unsafeSliceData_row _ _ _ _ _ _ (by omega)
  have hUS : (Builtin.unsafeString_ #[66, 3] 9 #[.pointer (some ⟨g, 0, none⟩), .int .i64 l.length]).run Try.prog w.drew = .ok (.string ⟨l.toArray⟩) (w.drew.freeze ⟨g, 0, none⟩ l.length) := by
    refine Lib.run_unsafeString_row w.drew 66 3 9 5 byte_under byte_cells g cur.size (by simp [World.shape?, hg']) l h0 (by omega) (by unfold maxLen at hcm; omega) ?_
    intro j x hx
    exact Lib.cells_of_row hg' l.length j _ (by rw [ht]; simp [Lib.byteCells, hx])
  go_enter Try.func21, Try.ntmps21
  go_wp2
  go_region
  all_goals (go_wp2; go_ret; exact ⟨rfl, rfl⟩)
set_option maxHeartbeats 4000000 in
theorem str_nil (b : Nat) (p : Value) (w : World) (hb : w.heap[b]? = some (.cells #[p, .slice none 0 0] 44 (0, 0))) :
    Calls Try.prog 21 #[.pointer (some ⟨b, 0, none⟩)] w fun e w' => e = .returned (.string ⟨#[]⟩) ∧ w' = w.drew := by
  have hUS : ∀ (W : World) (q : Option Addr), (Builtin.unsafeString_ #[66, 3] 9 #[.pointer q, .int .i64 0]).run Try.prog W = .ok (.string .empty) W := fun W q => Lib.run_unsafeString_none W _ _ _ q
  have c1 : w.drew.cell? ⟨b, 1, none⟩ = some (.slice none 0 0) := by
    have : w.drew.heap[b]? = some (.cells #[p, .slice none 0 0] 44 (0, 0)) := hb
    rw [Lib.cell_of_heap this]; rfl
  have hSD : (Builtin.unsafeSliceData_ #[42] 66 #[.slice none 0 0]).run Try.prog w.drew = .ok (.pointer none) w.drew := rfl
  go_enter Try.func21, Try.ntmps21
  go_wp2
  go_region
  all_goals (go_wp2; go_ret; exact ⟨rfl, rfl⟩)
theorem freeze_other (w : World) (p : Addr) (n k : Nat) (h : k ≠ p.block) : (w.freeze p n).heap[k]? = w.heap[k]? := by
  unfold World.freeze
  split
  · rfl
  · simp only [Array.getElem?_modify]
    rw [if_neg (fun e => h e.symm)]
theorem freeze_size (w : World) (p : Addr) (n : Nat) : (w.freeze p n).heap.size = w.heap.size := by
  unfold World.freeze; split <;> simp
theorem freeze_rest (w : World) (p : Addr) (n : Nat) : (w.freeze p n).os = w.os ∧ (w.freeze p n).tape = w.tape ∧ (w.freeze p n).output = w.output := by
  unfold World.freeze; split <;> simp
theorem bytCells {E : Ctx} : ∀ (l : List UInt8) (us : List Value), RdL E (bytD l) us → us = Lib.byteCells l
  | [], us, h => by simpa [bytD, RdL, Lib.byteCells] using h
  | b :: r, us, h => by
    simp only [bytD, List.map_cons, RdL, Rd] at h
    obtain ⟨u, t, rfl, _, rfl, h2⟩ := h
    have := bytCells r t (by simpa [bytD] using h2)
    simp [Lib.byteCells, this]
theorem str_call {H : Heap} {b b1 : Nat} {a : D} {fl : Bool} {s : List UInt8} (hb : H[b]? = some (some ⟨44, [a, .sl b1 0 s.length (.toEnd 1)], true⟩)) (hb1 : H[b1]? = some (some ⟨5, bytD s, fl⟩)) (h0 : s ≠ []) (hne : b ≠ b1) :
    CallJ Try.prog 21 [.ptr b 0] H (.v (.string ⟨s.toArray⟩)) (H.set b1 none) := by
  refine ⟨⟨_, Try.func21, by kernel_rfl, by kernel_rfl⟩, fun ρ S w vals hS hv => ?_⟩
  have hvals : vals = [.pointer (some ⟨(ρ b).1, 0, none⟩)] := by
    simp only [RdT, Rd] at hv
    obtain ⟨u, r, rfl, ⟨_, rfl⟩, rfl⟩ := hv
    rfl
  subst hvals
  have hz : 0 < (ρ b).2 := Nat.pos_of_ne_zero fun h0 => by have := hS.none b _ hb h0; cases this
  have hpos : 0 < s.length := List.length_pos_iff.2 h0
  have hz1 : 0 < (ρ b1).2 := Nat.pos_of_ne_zero fun h => by
    have := hS.none b1 _ hb1 h
    have := congrArg List.length this
    rw [bytD_length] at this; simp only [List.length_nil] at this; omega
  obtain ⟨cur, hc⟩ := hS.blk b _ hb hz
  obtain ⟨cur1, hc1⟩ := hS.blk b1 _ hb1 hz1
  have hh : w.heap[(ρ b).1]? = some (.cells cur 44 (0, 0)) := hc.heap.cells (show 44 ≠ itTy by decide)
  have hh1 : w.heap[(ρ b1).1]? = some (.cells cur1 5 (0, 0)) := hc1.heap.cells (show 5 ≠ itTy by decide)
  have hsz : cur.size = 2 := (hc.full rfl).symm
  obtain ⟨u, ux, rfl⟩ : ∃ u ux, cur = #[u, ux] := by
    obtain ⟨l⟩ := cur
    match l, hsz with
    | [u, ux], _ => exact ⟨u, ux, rfl⟩
  have hpre := hc.pre
  simp only [List.length_cons, List.length_nil, List.take_succ_cons, List.take_zero, RdL] at hpre
  obtain ⟨u1, r1, e1, o1, k1, u2, r2, e2, o2, k2, e3⟩ := hpre
  simp only [List.cons.injEq] at e1
  obtain ⟨rfl, rfl⟩ := e1
  simp only [List.cons.injEq] at e2
  obtain ⟨rfl, rfl⟩ := e2
  simp only [Rd, Nat.zero_add, Nat.mul_one] at k2
  obtain ⟨_, A, cp, rfl, q1, q2, q3, q4⟩ := k2
  have hA := q4 (by omega)
  subst hA
  have hp1 := bytCells s _ hc1.pre
  rw [bytD_length] at hp1
  refine (str_full (ρ b).1 (ρ b1).1 cp u cur1 s w h0 q1 q2 (by rw [q3]; exact hc1.size) hh hh1 hp1).mono ?_
  rintro e w' ⟨rfl, rfl⟩
  have hd : Drops H (H.set b1 none) := Drops.set H b1
  have hother : ∀ k, k ≠ (ρ b1).1 → (w.drew.freeze ⟨(ρ b1).1, 0, none⟩ s.length).heap[k]? = w.heap[k]? := fun k hk => freeze_other w.drew _ _ k hk
  have hsize : (w.drew.freeze ⟨(ρ b1).1, 0, none⟩ s.length).heap.size = w.heap.size := freeze_size w.drew _ _
  have live1 : Live ρ H (ρ b1).1 := ⟨b1, _, hb1, hz1, rfl⟩
  have hnl : ¬ Live ρ (H.set b1 none) (ρ b1).1 := fun ⟨c, bl, hcb, hzc, e⟩ => by
    by_cases hbc : b1 = c
    · subst hbc; rw [List.getElem?_set_self (List.getElem?_eq_some_iff.1 hb1).1] at hcb; cases hcb
    · exact hbc (hS.inj b1 c _ _ hb1 (hd.2 _ _ hcb) hz1 hzc e.symm)
  have hle : (ctx ρ S w H).le (ctx ρ S (w.drew.freeze ⟨(ρ b1).1, 0, none⟩ s.length) (H.set b1 none)) :=
    ⟨Nat.le_of_eq hd.1.symm, fun _ _ => rfl, fun _ h => h, fun k hk => hother k (fun e => (hS.sub k hk).2 (e ▸ live1)), fun _ h => .inl h, fun k hk => ⟨by show k < _; rw [hsize]; exact hk.1, fun ⟨c, bl, hcb, hzc, e⟩ => hk.2 ⟨c, bl, hd.2 _ _ hcb, hzc, e⟩⟩, fun k hk => hother k (fun e => hk.2 (e ▸ live1)), Nat.le_of_eq hsize.symm, (freeze_rest w.drew _ _).1, (freeze_rest w.drew _ _).2.1, (freeze_rest w.drew _ _).2.2⟩
  refine ⟨_, ρ, S, rfl, ⟨fun k hk => hle.fix k (hS.sub k hk), fun c bl hcb => hS.none c bl (hd.2 _ _ hcb), fun c bl hcb hzc => ?_, fun c c' bl bl' hcb hcb' hzc hzc' e => hS.inj c c' _ _ (hd.2 _ _ hcb) (hd.2 _ _ hcb') hzc hzc' e, hS.glob.mono (fun _ h => h) hle.keep⟩, hle, by simp [Rd]⟩
  obtain ⟨cu, hcu⟩ := hS.blk c bl (hd.2 _ _ hcb) hzc
  exact ⟨cu, hcu.heap.of (hother _ fun e => hnl ⟨c, bl, hcb, hzc, e⟩), hcu.size, hcu.pre.mono hle _ _, hcu.full⟩
theorem str_callN {H : Heap} {b : Nat} {a : D} (hb : H[b]? = some (some ⟨44, [a, .v (.slice none 0 0)], true⟩)) :
    CallJ Try.prog 21 [.ptr b 0] H (.v (.string ⟨#[]⟩)) H := by
  refine ⟨⟨_, Try.func21, by kernel_rfl, by kernel_rfl⟩, fun ρ S w vals hS hv => ?_⟩
  have hvals : vals = [.pointer (some ⟨(ρ b).1, 0, none⟩)] := by
    simp only [RdT, Rd] at hv
    obtain ⟨u, r, rfl, ⟨_, rfl⟩, rfl⟩ := hv
    rfl
  subst hvals
  have hz : 0 < (ρ b).2 := Nat.pos_of_ne_zero fun h0 => by have := hS.none b _ hb h0; cases this
  obtain ⟨cur, hc⟩ := hS.blk b _ hb hz
  have hh : w.heap[(ρ b).1]? = some (.cells cur 44 (0, 0)) := hc.heap.cells (show 44 ≠ itTy by decide)
  have hsz : cur.size = 2 := (hc.full rfl).symm
  obtain ⟨u, ux, rfl⟩ : ∃ u ux, cur = #[u, ux] := by
    obtain ⟨l⟩ := cur
    match l, hsz with
    | [u, ux], _ => exact ⟨u, ux, rfl⟩
  have hpre := hc.pre
  simp only [List.length_cons, List.length_nil, List.take_succ_cons, List.take_zero, RdL, Rd] at hpre
  obtain ⟨u1, r1, e1, o1, k1, u2, r2, e2, o2, k2, e3⟩ := hpre
  simp only [List.cons.injEq] at e1
  obtain ⟨rfl, rfl⟩ := e1
  simp only [List.cons.injEq] at e2
  obtain ⟨rfl, rfl⟩ := e2
  subst k2
  refine (str_nil (ρ b).1 u w hh).mono ?_
  rintro e w' ⟨rfl, rfl⟩
  exact ⟨_, ρ, S, rfl, hS.grow (Grow.drew w), (Grow.drew w).le (fun k hk => (hS.sub k hk).1), by simp [Rd]⟩
def entc_str : EntC := fun ds H => match ds with
  | [.ptr b 0] => match blkAt H b with
    | some ⟨ty, [a, .sl b1 0 n (.toEnd 1)], true⟩ => match blkAt H b1 with
      | some ⟨ty1, cs, f⟩ => some (.v (.string ⟨(unB cs).toArray⟩), H.set b1 none, (ty = 44 ∧ ty1 = 5 ∧ b ≠ b1) ∧ BOk n cs ∧ 0 < n)
      | none => none
    | some ⟨ty, [a, .v (.slice none 0 0)], true⟩ => some (.v (.string ⟨#[]⟩), H, ty = 44)
    | _ => none
  | _ => none
theorem entc_str_ok : EntCOk Try.prog 21 entc_str := by
  intro ds H d H' p hd hc; unfold entc_str at hd; split at hd
  · split at hd
    · rename_i hb
      split at hd
      · rename_i ty1 cs f hb1
        injection hd with hd
        simp only [Prod.mk.injEq] at hd
        obtain ⟨rfl, rfl, rfl⟩ := hd
        obtain ⟨⟨rfl, rfl, hne⟩, ⟨h1, h2⟩, h3⟩ := hc
        generalize unB cs = s at *
        subst h1; subst h2
        exact str_call (blkAt_some hb) (blkAt_some hb1) (List.length_pos_iff.1 h3) hne
      · cases hd
    · rename_i hb
      injection hd with hd
      simp only [Prod.mk.injEq] at hd
      obtain ⟨rfl, rfl, rfl⟩ := hd
      subst hc
      exact str_callN (blkAt_some hb)
    · cases hd
  · cases hd
theorem CallJ.viewK {P : Program} {f : FuncId} {ds : List D} {H H2 H' : Heap} {d : D} {keep : List KE} (h : CallJ P f ds H2 d H') (hn : (firstK keep H.length && nodupB (kO keep)) = true) (hh : viewHeapK keep H keep H2) (hds : (namesD.namesA ds).all (samB (kO keep)) = true) : CallJ P f ds H d H' := by
  simp only [Bool.and_eq_true] at hn
  obtain ⟨hf, hn⟩ := hn
  refine ⟨h.1, fun ρ S w vals hS hv => ?_⟩
  have hl2 := (viewHeapK_get _ _ hh).1
  have hl3 : H2.length = (kO keep).length := by rw [hl2]; simp [kO]
  have hlk := viewK_lek (k := H.length) hS hf hh
  refine (h.2 _ _ w vals (viewK_st (k := H.length) hS hf hn hh) (samT_rd hl3 (reρK_kO hf) ds vals (samB_ok hds) hv)).mono fun e w' ⟨v, ρ', S', he, hS', hle, hr⟩ => ⟨v, ρ', S', he, hS', ?_, hr⟩
  have ht := hlk.m.trans hle.lem
  have hN : H.length ≤ H2.length := by rw [hl2]; exact firstK_len hf
  exact ⟨Nat.le_trans hN hle.N, fun b hb => (hle.ρ b (Nat.lt_of_lt_of_le hb hN)).trans (hlk.ρ b hb), ht.S, ht.keep, ht.new, ht.fix, ht.heap, ht.size, ht.os, ht.tape, ht.output⟩
end Go.Proofs.Ytahiigfpikohgaa
end
