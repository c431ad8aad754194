import Derived.Test.YtfleadelfklenaaGreatDoorZGw15
import Derived.Test.YtfleadelfklenaaGreatDoorZGw11
import Derived.Test.YtfleadelfklenaaGreatDoorZGw5
section
namespace Go.Proofs.YtfleadelfklenaaGreatDoor
open Go.VD
set_option linter.unusedVariables false
set_option linter.unusedSimpArgs false
set_option maxRecDepth 100000
def e1S (s : Stn) (i : Nat) : Int := nmdS (nm3 s i 0 0 0) (s.bu.getD i default)
def e2S (s : Stn) (i : Nat) : Int := orE (nmdS (nm3 s s.bu.length i 0 0) (s.li.getD i default).n) (bif ohmB (s.li.getD i default).z1 && ohmB (s.li.getD i default).z0 then 0 else 2)
def e3S (s : Stn) (i : Nat) : Int := orE (nmdS (nm3 s s.bu.length s.li.length i 0) (s.so.getD i default).n) (bif srcB (s.so.getD i default).emf (s.so.getD i default).z1 (s.so.getD i default).z0 then 0 else 2)
def e4S (s : Stn) (i : Nat) : Int := orE (nmdS (nm3 s s.bu.length s.li.length s.so.length i) (s.ba.getD i default).n) (bayErr s.bu.length s.li.length s.so.length s.ba i (s.ba.getD i default))
def cntS (s : Stn) : Bool := !(decide (s.bu.length < 1) || (decide (4 < s.bu.length) || (decide (6 < s.li.length) || (decide (4 < s.so.length) || decide (16 < s.ba.length)))))
def elsE (s : Stn) : Int := orE (firstE (e1S s) s.bu.length) (orE (firstE (e2S s) s.li.length) (orE (firstE (e3S s) s.so.length) (firstE (e4S s) s.ba.length)))
def chkS (s : Stn) : Int := bif nameS s.n then (bif cntS s then elsE s else 3) else 7
theorem cntS_few {s : Stn} (h : cntS s = true) : fewS s := by
  unfold cntS at h; simp at h; unfold fewS; omega
theorem stn_eta (s : Stn) : Stn.mk s.n s.bu s.li s.so s.ba = s := rfl
theorem imp_eta (u : Imp) : Imp.mk u.r u.x = u := rfl
theorem next_all {f : Nat → Int} {x : Nat} (hall : ∀ j, j < x → f j = 0) (h0 : f x = 0) : ∀ j, j < x + 1 → f j = 0 := fun j hj => by
  rcases Nat.lt_or_ge j x with h2 | h2
  · exact hall j h2
  · rw [show j = x by omega]; exact h0
def lp_rck1 (s : Stn) : LoopO := loopRule2 (α := Nat) (β := Unit) (γ := Int) [some 0] (fun i => cntS s = true ∧ i ≤ s.bu.length ∧ ∀ j, j < i → e1S s j = 0) (fun i => [(1, .ptr 0 0), (3, d_i (s.bu.length : Int)), (4, d_i (s.li.length : Int)), (5, d_i (s.so.length : Int)), (6, d_i (s.ba.length : Int)), (7, d_i (i : Int))]) (fun i => [some ⟨27, d_stnL s, true⟩]) (0) (fun _ => firstE (e1S s) s.bu.length = 0) (fun _ => (.exit 0, [(1, .ptr 0 0), (3, d_i (s.bu.length : Int)), (4, d_i (s.li.length : Int)), (5, d_i (s.so.length : Int)), (6, d_i (s.ba.length : Int))], [some ⟨27, d_stnL s, true⟩])) (fun e => e ≠ 0 ∧ firstE (e1S s) s.bu.length = e) (fun e => (.ret, [(2, d_i e)], []))
theorem rck1_rule (s : Stn) (hpre : okStn s) : LRuleP Tryz.prog Tryz.f15.ntmps (loopAt ((Tryz.f15.body).getD .skip) 7) (lp_rck1 s) := by
  refine lrule_of2 (α := Nat) (β := Unit) (γ := Int) (call := (addPure 39 ent_rnames (addPure 38 ent_rnamed noCalls))) (lp := fun _ => none) (N := 10) T_ok mixed (addPure_ok ent_rnames_ok (addPure_ok ent_rnamed_ok noCalls_ok)) (fun i => s.bu.length - i) (by kernel_rfl) (LpAllP.none _) ?_
  intro x hJ
  refine of_eq (B := letI z16 := (Exit.exit (0 : Nat)); letI z9 := (Prod.mk (1 : Nat) (D.ptr (0 : Nat) (0 : Nat))); letI z3 := (List.length (Stn.bu s)); letI z15 := ((z3 : Nat) : Int); letI z31 := (Prod.mk (3 : Nat) (d_i z15)); letI z23 := (List.length (Stn.li s)); letI z6 := ((z23 : Nat) : Int); letI z32 := (Prod.mk (4 : Nat) (d_i z6)); letI z24 := (List.length (Stn.so s)); letI z7 := ((z24 : Nat) : Int); letI z33 := (Prod.mk (5 : Nat) (d_i z7)); letI z25 := (List.length (Stn.ba s)); letI z8 := ((z25 : Nat) : Int); letI z34 := (Prod.mk (6 : Nat) (d_i z8)); letI z20 := (Option.some (Blk.mk (27 : TypeId) (d_stnL s) Bool.true)); letI z0 := (Prod.mk z16 (Prod.mk [z9, z31, z32, z33, z34] [z20])); letI z17 := (busesD (Stn.bu s)); letI z27 := (linesD (Stn.li s)); letI z28 := (srcsD (Stn.so s)); letI z29 := (baysD (Stn.ba s)); letI z1 := (Option.some (Blk.mk (27 : Nat) [(D.v (Value.string (Stn.n s))), (D.ro z3 z17), (D.ro z23 z27), (D.ro z24 z28), (D.ro z25 z29)] Bool.true)); letI z2 := (Stn.mk (Stn.n s) (unBus z17) (unLin z27) (unSrc z28) (unBay z29)); letI z11 := ((x : Nat) : Int); letI z30 := ((Int.toNat z11) * (1 : Nat)); letI z4 := (List.getD z17 z30 (Inhabited.default)); letI z5 := (nm3 z2 (Int.toNat z11) (0 : Nat) (0 : Nat) (0 : Nat)); letI z10 := (Prod.mk (3 : Nat) (D.v (Value.int IntKind.i64 z15))); letI z12 := (Prod.mk (4 : Nat) (D.v (Value.int IntKind.i64 z6))); letI z13 := (Prod.mk (5 : Nat) (D.v (Value.int IntKind.i64 z7))); letI z14 := (Prod.mk (6 : Nat) (D.v (Value.int IntKind.i64 z8))); letI z18 := (List (Option Nat)); letI z19 := ([] : List (Option Blk)); letI z21 := (firstE (e1S s) z3); letI z22 := ((0 : Int) ≤ (0 : Int)); letI z26 := (nmdS (unBus (busesD z5)) (cellStr z4)); letI z35 := ((0 : Int) ≤ z11); (True ∧ (True ∧ (True ∧ (pcond (Decidable.decide (z11 < z15)) (((5 : Nat) ≤ (5 : Nat)) ∧ (True ∧ (((StnOk z2 z3 z23 z24 z25 z17 z27 z28 z29) ∧ ((fewS z2) ∧ ((z35 ∧ (z11 ≤ z15)) ∧ ((z22 ∧ ((0 : Int) ≤ z6)) ∧ ((z22 ∧ ((0 : Int) ≤ z7)) ∧ (z22 ∧ ((0 : Int) ≤ z8))))))) ∧ (True ∧ (((1 : Nat) < (5 : Nat)) ∧ (True ∧ ((z35 ∧ (z11 < z15)) ∧ (((z30 < (List.length z17)) ∧ (IsStr z4)) ∧ (((BusOk (List.length z5) (busesD z5)) ∧ ((ByteArray.size (cellStr z4)) ≤ (9223372036854775807 : Nat))) ∧ (True ∧ ((Bool.true = Bool.true) ∧ (True ∧ (True ∧ (pcond (z26 != (0 : Int)) (True ∧ (True ∧ ((∃ (r : Unit), (∃ (kp : z18), ((z21 = (0 : Int)) ∧ ((Exit.ret = z16) ∧ (viewAll kp [z9, z10, z12, z13, z14] [z1] (Prod.fst (Prod.snd ((fun (x_1 : Unit) => z0) r))) (Prod.snd (Prod.snd ((fun (x_1 : Unit) => z0) r)))))))) ∨ (∃ (r : Int), (∃ (kp : z18), (((r ≠ (0 : Int)) ∧ (z21 = r)) ∧ ((Exit.ret = Exit.ret) ∧ (viewAll kp [(Prod.mk (2 : Nat) (D.v (Value.int IntKind.i64 z26)))] [z1] (Prod.fst (Prod.snd ((fun (e : Int) => (Prod.mk Exit.ret (Prod.mk [(Prod.mk (2 : Nat) (d_i e))] z19))) r))) (Prod.snd (Prod.snd ((fun (e : Int) => (Prod.mk Exit.ret (Prod.mk [(Prod.mk (2 : Nat) (d_i e))] z19))) r))))))))))) (True ∧ (True ∧ (True ∧ (∃ (y : Nat), (∃ (kp : z18), (((z3 - y) < (z3 - x)) ∧ ((((cntS s) = Bool.true) ∧ ((y ≤ z3) ∧ (∀ (j : Nat), ((j < y) → ((e1S s j) = (0 : Int)))))) ∧ (viewAll kp [z9, z10, z12, z13, z14, (Prod.mk (7 : Nat) (D.v (Value.int IntKind.i64 (IntKind.wrap IntKind.i64 (z11 + (1 : Int))))))] [z1] [z9, z31, z32, z33, z34, (Prod.mk (7 : Nat) (d_i ((y : Nat) : Int)))] [z20])))))))))))))))))))))) ((∃ (r : Unit), (∃ (kp : z18), ((z21 = (0 : Int)) ∧ ((z16 = z16) ∧ (viewAll kp [z9, z10, z12, z13, z14] [z1] (Prod.fst (Prod.snd ((fun (x_1 : Unit) => z0) r))) (Prod.snd (Prod.snd ((fun (x_1 : Unit) => z0) r)))))))) ∨ (∃ (r : Int), (∃ (kp : z18), (((r ≠ (0 : Int)) ∧ (z21 = r)) ∧ ((z16 = Exit.ret) ∧ (viewAll kp ([] : List (Prod Nat D)) [z1] (Prod.fst (Prod.snd ((fun (e : Int) => (Prod.mk Exit.ret (Prod.mk [(Prod.mk (2 : Nat) (d_i e))] z19))) r))) (Prod.snd (Prod.snd ((fun (e : Int) => (Prod.mk Exit.ret (Prod.mk [(Prod.mk (2 : Nat) (d_i e))] z19))) r)))))))))))))) (by kernel_rfl) ?_
  obtain ⟨hc, hx, hall⟩ := hJ
  obtain ⟨f1, f2, f3, f4⟩ := cntS_few hc
  simp only [true_and, and_true, and_self, IsInt_lit, IsBool_lit, IsStr_lit, IsSl_lit, cellN_lit, cellL_lit, Bool.not_eq_true', Bool.not_eq_false', Bool.not_true, Bool.not_false, Int.reduceLE, Int.reduceLT, Int.reduceNeg, Nat.le_refl, Int.le_refl, Nat.reduceLT, Nat.reduceLeDiff, Nat.reduceEqDiff, D.v.injEq, D.tup.injEq, D.agg.injEq, D.ro.injEq, List.cons.injEq, Value.int.injEq, Value.bool.injEq, pcond_true, pcond_false, NamelessL, Nameless, Nat.reduceMul, Nat.reduceAdd, Nat.zero_add, Int.toNat_natCast]
  refine pcond_intro (fun h => ?_) (fun h => .inl ⟨(), [some 0], ?_, ?_⟩)
  · simp only [decide_eq_true_eq] at h
    have hxa : x < s.bu.length := by omega
    have ga := busesD_get s.bu x hxa
    have ha := busesD_length s.bu
    have hsz : (s.bu.getD x default).size ≤ maxLen := hpre.2.1.2 _ (getD_mem hxa)
    have hl3 := nm3_len s x 0 0 0
    simp only [Nat.mul_one, ga, cellStr_lit, IsStr_lit, wrap_succ hxa (show s.bu.length ≤ 9223372036854775807 by omega), and_true, unBus_D, unLin_D, unSrc_D, unBay_D, StnOk_lit, BusOk_lit, stn_eta]
    have hv : nmdS (nm3 s x 0 0 0) (s.bu.getD x default) = e1S s x := rfl
    rw [hv]
    refine ⟨⟨⟨okStn_lens hpre, hpre⟩, ⟨f1, f2, f3, f4⟩, by omega, by omega, by omega, by omega⟩, ⟨by omega, by omega⟩, by omega, ⟨by simp only [maxLen]; omega, hsz⟩, pcond_intro (fun h1 => ?_) (fun h1 => ?_)⟩
    · rw [bne_iff_ne] at h1
      exact .inr ⟨e1S s x, [], ⟨h1, firstE_at hxa hall h1⟩, ⟨rfl, rfl, ⟨trivial, rfl⟩, trivial⟩⟩
    · rw [bne_eq_false_iff_eq] at h1
      exact ⟨x + 1, [some 0], by omega, ⟨hc, by omega, next_all hall h1⟩, ⟨rfl, ⟨⟨rfl, stnD_nl s⟩, rfl⟩, ⟨trivial, rfl⟩, ⟨trivial, rfl⟩, ⟨trivial, rfl⟩, ⟨trivial, rfl⟩, ⟨trivial, rfl⟩, ⟨trivial, rfl⟩, trivial⟩⟩
  · simp only [decide_eq_false_iff_not] at h
    exact firstE_zero fun j hj => hall j (by omega)
  · exact ⟨rfl, ⟨⟨rfl, stnD_nl s⟩, rfl⟩, ⟨trivial, rfl⟩, ⟨trivial, rfl⟩, ⟨trivial, rfl⟩, ⟨trivial, rfl⟩, ⟨trivial, rfl⟩, trivial⟩
def lp_rck2 (s : Stn) : LoopO := loopRule2 (α := Nat) (β := Unit) (γ := Int) [some 0] (fun i => cntS s = true ∧ i ≤ s.li.length ∧ ∀ j, j < i → e2S s j = 0) (fun i => [(1, .ptr 0 0), (3, d_i (s.bu.length : Int)), (4, d_i (s.li.length : Int)), (5, d_i (s.so.length : Int)), (6, d_i (s.ba.length : Int)), (9, d_i (i : Int))]) (fun i => [some ⟨27, d_stnL s, true⟩]) (0) (fun _ => firstE (e2S s) s.li.length = 0) (fun _ => (.exit 2, [(1, .ptr 0 0), (3, d_i (s.bu.length : Int)), (4, d_i (s.li.length : Int)), (5, d_i (s.so.length : Int)), (6, d_i (s.ba.length : Int))], [some ⟨27, d_stnL s, true⟩])) (fun e => e ≠ 0 ∧ firstE (e2S s) s.li.length = e) (fun e => (.ret, [(2, d_i e)], []))
theorem rck2_rule (s : Stn) (hpre : okStn s) : LRuleP Tryz.prog Tryz.f15.ntmps (loopAt ((Tryz.f15.body).getD .skip) 13) (lp_rck2 s) := by
  refine lrule_of2 (α := Nat) (β := Unit) (γ := Int) (call := (addPure 39 ent_rnames (addPure 38 ent_rnamed (addPure 40 ent_rohm noCalls)))) (lp := fun _ => none) (N := 10) T_ok mixed (addPure_ok ent_rnames_ok (addPure_ok ent_rnamed_ok (addPure_ok ent_rohm_ok noCalls_ok))) (fun i => s.li.length - i) (by kernel_rfl) (LpAllP.none _) ?_
  intro x hJ
  refine of_eq (B := letI z20 := (Exit.exit (2 : Nat)); letI z9 := (Prod.mk (1 : Nat) (D.ptr (0 : Nat) (0 : Nat))); letI z39 := (List.length (Stn.bu s)); letI z4 := ((z39 : Nat) : Int); letI z35 := (Prod.mk (3 : Nat) (d_i z4)); letI z3 := (List.length (Stn.li s)); letI z21 := ((z3 : Nat) : Int); letI z32 := (Prod.mk (4 : Nat) (d_i z21)); letI z40 := (List.length (Stn.so s)); letI z17 := ((z40 : Nat) : Int); letI z33 := (Prod.mk (5 : Nat) (d_i z17)); letI z41 := (List.length (Stn.ba s)); letI z18 := ((z41 : Nat) : Int); letI z34 := (Prod.mk (6 : Nat) (d_i z18)); letI z23 := (Option.some (Blk.mk (27 : TypeId) (d_stnL s) Bool.true)); letI z0 := (Prod.mk z20 (Prod.mk [z9, z35, z32, z33, z34] [z23])); letI z44 := (busesD (Stn.bu s)); letI z12 := (linesD (Stn.li s)); letI z45 := (srcsD (Stn.so s)); letI z46 := (baysD (Stn.ba s)); letI z1 := (Option.some (Blk.mk (27 : Nat) [(D.v (Value.string (Stn.n s))), (D.ro z39 z44), (D.ro z3 z12), (D.ro z40 z45), (D.ro z41 z46)] Bool.true)); letI z8 := (Stn.mk (Stn.n s) (unBus z44) (unLin z12) (unSrc z45) (unBay z46)); letI z14 := ((x : Nat) : Int); letI z22 := (nm3 z8 (Int.toNat z4) (Int.toNat z14) (0 : Nat) (0 : Nat)); letI z7 := ((Int.toNat z14) * (5 : Nat)); letI z24 := (List.getD z12 (z7 + (0 : Nat)) (Inhabited.default)); letI z2 := (nmdS (unBus (busesD z22)) (cellStr z24)); letI z5 := (Prod.mk (5 : Nat) (D.v (Value.int IntKind.i64 z17))); letI z6 := (Prod.mk (6 : Nat) (D.v (Value.int IntKind.i64 z18))); letI z10 := (Prod.mk (4 : Nat) (D.v (Value.int IntKind.i64 z21))); letI z11 := (Prod.mk (3 : Nat) (D.v (Value.int IntKind.i64 z4))); letI z13 := (([] : List Value) = ([] : List Value)); letI z15 := ([] : List (Option Blk)); letI z16 := (List (Option Nat)); letI z19 := (firstE (e2S s) z3); letI z25 := (Prod.mk (9 : Nat) (D.v (Value.int IntKind.i64 (IntKind.wrap IntKind.i64 (z14 + (1 : Int)))))); letI z52 := ((0 : Int) ≤ z14); letI z26 := (z52 ∧ (z14 < z21)); letI z48 := (z7 + (1 : Nat)); letI z27 := (List.getD z12 (z48 + (1 : Nat)) (Inhabited.default)); letI z49 := (z7 + (3 : Nat)); letI z28 := (List.getD z12 (z49 + (1 : Nat)) (Inhabited.default)); letI z29 := (z19 = (0 : Int)); letI z30 := (Prod.mk (2 : Nat) (D.v (Value.int IntKind.i64 (2 : Int)))); letI z31 := Exit.ret = Exit.ret; letI z36 := (List.getD z12 z48 (Inhabited.default)); letI z37 := (List.getD z12 z49 (Inhabited.default)); letI z38 := (Prod.mk (2 : Nat) (D.v (Value.int IntKind.i64 z2))); letI z42 := ((2 : Nat) < (5 : Nat)); letI z43 := Exit.ret = z20; letI z47 := List.length z12; letI z50 := ((0 : Int) ≤ (0 : Int)); letI z51 := ((cntS s) = Bool.true); (True ∧ (True ∧ (True ∧ (pcond (Decidable.decide (z14 < z21)) (((5 : Nat) ≤ (5 : Nat)) ∧ (True ∧ (True ∧ (((StnOk z8 z39 z3 z40 z41 z44 z12 z45 z46) ∧ ((fewS z8) ∧ ((((0 : Int) ≤ z4) ∧ (z4 ≤ z4)) ∧ ((z52 ∧ (z14 ≤ z21)) ∧ ((z50 ∧ ((0 : Int) ≤ z17)) ∧ (z50 ∧ ((0 : Int) ≤ z18))))))) ∧ (True ∧ (z42 ∧ (True ∧ (z26 ∧ (True ∧ ((((z7 + (0 : Nat)) < z47) ∧ (IsStr z24)) ∧ (((BusOk (List.length z22) (busesD z22)) ∧ ((ByteArray.size (cellStr z24)) ≤ (9223372036854775807 : Nat))) ∧ (True ∧ ((Bool.true = Bool.true) ∧ (True ∧ (True ∧ (True ∧ (pcond (z2 == (0 : Int)) (True ∧ (z42 ∧ (True ∧ (z26 ∧ (True ∧ ((((z48 + (2 : Nat)) ≤ z47) ∧ ((IsInt IntKind.i64 z36) ∧ ((IsInt IntKind.i64 z27) ∧ True))) ∧ (True ∧ (True ∧ (True ∧ (pcond (!(ohmB (Imp.mk (cellInt z36) (cellInt z27)))) (True ∧ (True ∧ (True ∧ (True ∧ (True ∧ (True ∧ (True ∧ ((∃ (r : Unit), (∃ (kp : z16), (z29 ∧ (z43 ∧ (viewAll kp [z9, z11, z10, z5, z6] [z1] (Prod.fst (Prod.snd ((fun (x_1 : Unit) => z0) r))) (Prod.snd (Prod.snd ((fun (x_1 : Unit) => z0) r)))))))) ∨ (∃ (r : Int), (∃ (kp : z16), (((r ≠ (0 : Int)) ∧ (z19 = r)) ∧ (z31 ∧ (viewAll kp [z30] [z1] (Prod.fst (Prod.snd ((fun (e : Int) => (Prod.mk Exit.ret (Prod.mk [(Prod.mk (2 : Nat) (d_i e))] z15))) r))) (Prod.snd (Prod.snd ((fun (e : Int) => (Prod.mk Exit.ret (Prod.mk [(Prod.mk (2 : Nat) (d_i e))] z15))) r)))))))))))))))) (True ∧ (z42 ∧ (True ∧ (z26 ∧ (True ∧ ((((z49 + (2 : Nat)) ≤ z47) ∧ ((IsInt IntKind.i64 z37) ∧ ((IsInt IntKind.i64 z28) ∧ True))) ∧ (True ∧ (True ∧ (True ∧ (True ∧ (pcond (!(ohmB (Imp.mk (cellInt z37) (cellInt z28)))) (True ∧ (True ∧ (True ∧ (True ∧ (True ∧ ((∃ (r : Unit), (∃ (kp : z16), (z29 ∧ (z43 ∧ (viewAll kp [z9, z11, z10, z5, z6] [z1] (Prod.fst (Prod.snd ((fun (x_1 : Unit) => z0) r))) (Prod.snd (Prod.snd ((fun (x_1 : Unit) => z0) r)))))))) ∨ (∃ (r : Int), (∃ (kp : z16), (((r ≠ (0 : Int)) ∧ (z19 = r)) ∧ (z31 ∧ (viewAll kp [z30] [z1] (Prod.fst (Prod.snd ((fun (e : Int) => (Prod.mk Exit.ret (Prod.mk [(Prod.mk (2 : Nat) (d_i e))] z15))) r))) (Prod.snd (Prod.snd ((fun (e : Int) => (Prod.mk Exit.ret (Prod.mk [(Prod.mk (2 : Nat) (d_i e))] z15))) r)))))))))))))) (True ∧ (True ∧ (pcond (z2 != (0 : Int)) (True ∧ (True ∧ ((∃ (r : Unit), (∃ (kp : z16), (z29 ∧ (z43 ∧ (viewAll kp [z9, z11, z10, z5, z6] [z1] (Prod.fst (Prod.snd ((fun (x_1 : Unit) => z0) r))) (Prod.snd (Prod.snd ((fun (x_1 : Unit) => z0) r)))))))) ∨ (∃ (r : Int), (∃ (kp : z16), (((r ≠ (0 : Int)) ∧ (z19 = r)) ∧ (z31 ∧ (viewAll kp [z38] [z1] (Prod.fst (Prod.snd ((fun (e : Int) => (Prod.mk Exit.ret (Prod.mk [(Prod.mk (2 : Nat) (d_i e))] z15))) r))) (Prod.snd (Prod.snd ((fun (e : Int) => (Prod.mk Exit.ret (Prod.mk [(Prod.mk (2 : Nat) (d_i e))] z15))) r))))))))))) (True ∧ (True ∧ (True ∧ (∃ (y : Nat), (∃ (kp : z16), (((z3 - y) < (z3 - x)) ∧ ((z51 ∧ ((y ≤ z3) ∧ (∀ (j : Nat), ((j < y) → ((e2S s j) = (0 : Int)))))) ∧ (viewAll kp [z9, z11, z10, z5, z6, z25] [z1] [z9, z35, z32, z33, z34, (Prod.mk (9 : Nat) (d_i ((y : Nat) : Int)))] [z23])))))))))))))))))))))))))))))))) (z13 ∧ (z13 ∧ (z13 ∧ (z13 ∧ (z13 ∧ (z13 ∧ (z13 ∧ (z13 ∧ (True ∧ (True ∧ (True ∧ (pcond (z2 != (0 : Int)) (True ∧ (True ∧ ((∃ (r : Unit), (∃ (kp : z16), (z29 ∧ (z43 ∧ (viewAll kp [z9, z11, z10, z5, z6] [z1] (Prod.fst (Prod.snd ((fun (x_1 : Unit) => z0) r))) (Prod.snd (Prod.snd ((fun (x_1 : Unit) => z0) r)))))))) ∨ (∃ (r : Int), (∃ (kp : z16), (((r ≠ (0 : Int)) ∧ (z19 = r)) ∧ (z31 ∧ (viewAll kp [z38] [z1] (Prod.fst (Prod.snd ((fun (e : Int) => (Prod.mk Exit.ret (Prod.mk [(Prod.mk (2 : Nat) (d_i e))] z15))) r))) (Prod.snd (Prod.snd ((fun (e : Int) => (Prod.mk Exit.ret (Prod.mk [(Prod.mk (2 : Nat) (d_i e))] z15))) r))))))))))) (True ∧ (True ∧ (True ∧ (∃ (y : Nat), (∃ (kp : z16), (((z3 - y) < (z3 - x)) ∧ ((z51 ∧ ((y ≤ z3) ∧ (∀ (j : Nat), ((j < y) → ((e2S s j) = (0 : Int)))))) ∧ (viewAll kp [z9, z11, z10, z5, z6, z25] [z1] [z9, z35, z32, z33, z34, (Prod.mk (9 : Nat) (d_i ((y : Nat) : Int)))] [z23]))))))))))))))))))))))))))))))))))))) ((∃ (r : Unit), (∃ (kp : z16), (z29 ∧ ((z20 = z20) ∧ (viewAll kp [z9, z11, z10, z5, z6] [z1] (Prod.fst (Prod.snd ((fun (x_1 : Unit) => z0) r))) (Prod.snd (Prod.snd ((fun (x_1 : Unit) => z0) r)))))))) ∨ (∃ (r : Int), (∃ (kp : z16), (((r ≠ (0 : Int)) ∧ (z19 = r)) ∧ ((z20 = Exit.ret) ∧ (viewAll kp ([] : List (Prod Nat D)) [z1] (Prod.fst (Prod.snd ((fun (e : Int) => (Prod.mk Exit.ret (Prod.mk [(Prod.mk (2 : Nat) (d_i e))] z15))) r))) (Prod.snd (Prod.snd ((fun (e : Int) => (Prod.mk Exit.ret (Prod.mk [(Prod.mk (2 : Nat) (d_i e))] z15))) r)))))))))))))) (by kernel_rfl) ?_
  obtain ⟨hc, hx, hall⟩ := hJ
  obtain ⟨f1, f2, f3, f4⟩ := cntS_few hc
  simp only [true_and, and_true, and_self, IsInt_lit, IsBool_lit, IsStr_lit, IsSl_lit, cellN_lit, cellL_lit, Bool.not_eq_true', Bool.not_eq_false', Bool.not_true, Bool.not_false, Int.reduceLE, Int.reduceLT, Int.reduceNeg, Nat.le_refl, Int.le_refl, Nat.reduceLT, Nat.reduceLeDiff, Nat.reduceEqDiff, D.v.injEq, D.tup.injEq, D.agg.injEq, D.ro.injEq, List.cons.injEq, Value.int.injEq, Value.bool.injEq, pcond_true, pcond_false, NamelessL, Nameless, Nat.reduceMul, Nat.reduceAdd, Nat.zero_add, Int.toNat_natCast]
  refine pcond_intro (fun h => ?_) (fun h => .inl ⟨(), [some 0], ?_, ?_⟩)
  · simp only [decide_eq_true_eq] at h
    have hxa : x < s.li.length := by omega
    have ga := linesD_get s.li x hxa
    have ha := linesD_length s.li
    have hsz : (s.li.getD x default).n.size ≤ maxLen := (hpre.2.2.1.2 _ (getD_mem hxa)).1
    have hl3 := nm3_len s s.bu.length x 0 0
    simp only [Nat.add_zero, ga, cellStr_lit, IsStr_lit, cellInt_lit, IsInt_lit, wrap_succ hxa (show s.li.length ≤ 9223372036854775807 by omega), true_and, and_true, unBus_D, unLin_D, unSrc_D, unBay_D, StnOk_lit, BusOk_lit, stn_eta, imp_eta, Int.toNat_natCast]
    have nx : e2S s x = 0 → _ := next_all hall
    have rt : ∀ e, e2S s x = e → e ≠ 0 → firstE (e2S s) s.li.length = e := fun e he h0 => by rw [firstE_at hxa hall (by rw [he]; exact h0), he]
    have ev : e2S s x = orE (nmdS (nm3 s s.bu.length x 0 0) (s.li.getD x default).n) (bif ohmB (s.li.getD x default).z1 && ohmB (s.li.getD x default).z0 then 0 else 2) := rfl
    generalize nmdS (nm3 s s.bu.length x 0 0) (s.li.getD x default).n = q at *
    refine ⟨⟨⟨okStn_lens hpre, hpre⟩, ⟨f1, f2, f3, f4⟩, by omega, by omega, by omega, by omega⟩, ⟨by omega, by omega⟩, by omega, ⟨by simp only [maxLen]; omega, hsz⟩, pcond_intro (fun h1 => ?_) (fun h1 => pcond_intro (fun h2 => ?_) (fun h2 => ?_))⟩
    · rw [beq_iff_eq] at h1
      subst h1
      rw [show orE 0 = id from rfl, id] at ev
      refine ⟨⟨by omega, by omega⟩, by omega, pcond_intro (fun h2 => .inr ⟨2, [], ⟨by decide, rt 2 (by rw [ev]; rw [Bool.not_eq_true'] at h2; rw [h2]; rfl) (by decide)⟩, ⟨rfl, rfl, ⟨trivial, rfl⟩, trivial⟩⟩) (fun h2 => ⟨⟨by omega, by omega⟩, by omega, pcond_intro (fun h3 => .inr ⟨2, [], ⟨by decide, rt 2 (by rw [ev]; rw [Bool.not_eq_true'] at h3; rw [h3, Bool.and_false]; rfl) (by decide)⟩, ⟨rfl, rfl, ⟨trivial, rfl⟩, trivial⟩⟩) (fun h3 => ?_)⟩)⟩
      rw [Bool.not_eq_false'] at h2 h3
      refine pcond_intro (fun h4 => absurd h4 (by decide)) (fun _ => ?_)
      exact ⟨x + 1, [some 0], by omega, ⟨hc, by omega, nx (by rw [ev, h2, h3]; rfl)⟩, ⟨rfl, ⟨⟨rfl, stnD_nl s⟩, rfl⟩, ⟨trivial, rfl⟩, ⟨trivial, rfl⟩, ⟨trivial, rfl⟩, ⟨trivial, rfl⟩, ⟨trivial, rfl⟩, ⟨trivial, rfl⟩, trivial⟩⟩
    · rw [bne_iff_ne] at h2
      exact .inr ⟨q, [], ⟨h2, rt q (by rw [ev]; exact orE_ne h2) h2⟩, ⟨rfl, rfl, ⟨trivial, rfl⟩, trivial⟩⟩
    · exfalso; rw [bne_eq_false_iff_eq] at h2; rw [beq_eq_false_iff_ne] at h1; exact h1 h2
  · simp only [decide_eq_false_iff_not] at h
    exact firstE_zero fun j hj => hall j (by omega)
  · exact ⟨rfl, ⟨⟨rfl, stnD_nl s⟩, rfl⟩, ⟨trivial, rfl⟩, ⟨trivial, rfl⟩, ⟨trivial, rfl⟩, ⟨trivial, rfl⟩, ⟨trivial, rfl⟩, trivial⟩
def lp_rck3 (s : Stn) : LoopO := loopRule2 (α := Nat) (β := Unit) (γ := Int) [some 0] (fun i => cntS s = true ∧ i ≤ s.so.length ∧ ∀ j, j < i → e3S s j = 0) (fun i => [(1, .ptr 0 0), (3, d_i (s.bu.length : Int)), (4, d_i (s.li.length : Int)), (5, d_i (s.so.length : Int)), (6, d_i (s.ba.length : Int)), (11, d_i (i : Int))]) (fun i => [some ⟨27, d_stnL s, true⟩]) (0) (fun _ => firstE (e3S s) s.so.length = 0) (fun _ => (.exit 4, [(1, .ptr 0 0), (3, d_i (s.bu.length : Int)), (4, d_i (s.li.length : Int)), (5, d_i (s.so.length : Int)), (6, d_i (s.ba.length : Int))], [some ⟨27, d_stnL s, true⟩])) (fun e => e ≠ 0 ∧ firstE (e3S s) s.so.length = e) (fun e => (.ret, [(2, d_i e)], []))
theorem rck3_rule (s : Stn) (hpre : okStn s) : LRuleP Tryz.prog Tryz.f15.ntmps (loopAt ((Tryz.f15.body).getD .skip) 21) (lp_rck3 s) := by
  refine lrule_of2 (α := Nat) (β := Unit) (γ := Int) (call := (addPure 39 ent_rnames (addPure 38 ent_rnamed (addPure 41 ent_rsrc noCalls)))) (lp := fun _ => none) (N := 10) T_ok mixed (addPure_ok ent_rnames_ok (addPure_ok ent_rnamed_ok (addPure_ok ent_rsrc_ok noCalls_ok))) (fun i => s.so.length - i) (by kernel_rfl) (LpAllP.none _) ?_
  intro x hJ
  refine of_eq (B := letI z21 := (Exit.exit (4 : Nat)); letI z9 := (Prod.mk (1 : Nat) (D.ptr (0 : Nat) (0 : Nat))); letI z35 := (List.length (Stn.bu s)); letI z6 := ((z35 : Nat) : Int); letI z31 := (Prod.mk (3 : Nat) (d_i z6)); letI z36 := (List.length (Stn.li s)); letI z7 := ((z36 : Nat) : Int); letI z32 := (Prod.mk (4 : Nat) (d_i z7)); letI z4 := (List.length (Stn.so s)); letI z23 := ((z4 : Nat) : Int); letI z28 := (Prod.mk (5 : Nat) (d_i z23)); letI z37 := (List.length (Stn.ba s)); letI z16 := ((z37 : Nat) : Int); letI z29 := (Prod.mk (6 : Nat) (d_i z16)); letI z22 := (Option.some (Blk.mk (27 : TypeId) (d_stnL s) Bool.true)); letI z0 := (Prod.mk z21 (Prod.mk [z9, z31, z32, z28, z29] [z22])); letI z42 := (busesD (Stn.bu s)); letI z43 := (linesD (Stn.li s)); letI z11 := (srcsD (Stn.so s)); letI z44 := (baysD (Stn.ba s)); letI z1 := (Option.some (Blk.mk (27 : Nat) [(D.v (Value.string (Stn.n s))), (D.ro z35 z42), (D.ro z36 z43), (D.ro z4 z11), (D.ro z37 z44)] Bool.true)); letI z14 := (Stn.mk (Stn.n s) (unBus z42) (unLin z43) (unSrc z11) (unBay z44)); letI z19 := ((x : Nat) : Int); letI z5 := (nm3 z14 (Int.toNat z6) (Int.toNat z7) (Int.toNat z19) (0 : Nat)); letI z3 := ((Int.toNat z19) * (6 : Nat)); letI z24 := (List.getD z11 (z3 + (0 : Nat)) (Inhabited.default)); letI z2 := (nmdS (unBus (busesD z5)) (cellStr z24)); letI z8 := (Prod.mk (6 : Nat) (D.v (Value.int IntKind.i64 z16))); letI z10 := (Prod.mk (5 : Nat) (D.v (Value.int IntKind.i64 z23))); letI z12 := (Prod.mk (3 : Nat) (D.v (Value.int IntKind.i64 z6))); letI z13 := (Prod.mk (4 : Nat) (D.v (Value.int IntKind.i64 z7))); letI z45 := ((z3 + (1 : Nat)) + (1 : Nat)); letI z15 := (z45 + (1 : Nat)); letI z17 := ([] : List (Option Blk)); letI z18 := (List (Option Nat)); letI z20 := (firstE (e3S s) z4); letI z25 := (Prod.mk (11 : Nat) (D.v (Value.int IntKind.i64 (IntKind.wrap IntKind.i64 (z19 + (1 : Int)))))); letI z26 := (List.getD z11 ((z15 + (1 : Nat)) + (1 : Nat)) (Inhabited.default)); letI z27 := (List.getD z11 z45 (Inhabited.default)); letI z30 := (List.getD z11 (z15 + (1 : Nat)) (Inhabited.default)); letI z33 := (List.getD z11 (z3 + (1 : Nat)) (Inhabited.default)); letI z34 := (Prod.mk (2 : Nat) (D.v (Value.int IntKind.i64 z2))); letI z38 := (z20 = (0 : Int)); letI z39 := (List.getD z11 z15 (Inhabited.default)); letI z40 := Exit.ret = Exit.ret; letI z49 := ((0 : Int) ≤ z19); letI z41 := (z49 ∧ (z19 < z23)); letI z46 := Exit.ret = z21; letI z47 := ((3 : Nat) < (5 : Nat)); letI z48 := ((cntS s) = Bool.true); (True ∧ (True ∧ (True ∧ (pcond (Decidable.decide (z19 < z23)) (((5 : Nat) ≤ (5 : Nat)) ∧ (True ∧ (True ∧ (True ∧ (((StnOk z14 z35 z36 z4 z37 z42 z43 z11 z44) ∧ ((fewS z14) ∧ ((((0 : Int) ≤ z6) ∧ (z6 ≤ z6)) ∧ ((((0 : Int) ≤ z7) ∧ (z7 ≤ z7)) ∧ ((z49 ∧ (z19 ≤ z23)) ∧ (((0 : Int) ≤ (0 : Int)) ∧ ((0 : Int) ≤ z16))))))) ∧ (True ∧ (z47 ∧ (True ∧ (z41 ∧ (True ∧ ((((z3 + (0 : Nat)) < (List.length z11)) ∧ (IsStr z24)) ∧ (((BusOk (List.length z5) (busesD z5)) ∧ ((ByteArray.size (cellStr z24)) ≤ (9223372036854775807 : Nat))) ∧ (True ∧ ((Bool.true = Bool.true) ∧ (True ∧ (True ∧ (True ∧ (pcond (z2 == (0 : Int)) (True ∧ (z47 ∧ (True ∧ (z41 ∧ ((((z3 + (6 : Nat)) ≤ (List.length z11)) ∧ ((IsStr (List.getD z11 z3 (Inhabited.default))) ∧ ((IsInt IntKind.i64 z33) ∧ ((IsInt IntKind.i64 z27) ∧ ((IsInt IntKind.i64 z39) ∧ ((IsInt IntKind.i64 z30) ∧ ((IsInt IntKind.i64 z26) ∧ True))))))) ∧ (True ∧ (True ∧ (True ∧ (pcond (!(srcB (cellInt z33) (Imp.mk (cellInt z27) (cellInt z39)) (Imp.mk (cellInt z30) (cellInt z26)))) (True ∧ (True ∧ (True ∧ (True ∧ (True ∧ ((∃ (r : Unit), (∃ (kp : z18), (z38 ∧ (z46 ∧ (viewAll kp [z9, z12, z13, z10, z8] [z1] (Prod.fst (Prod.snd ((fun (x_1 : Unit) => z0) r))) (Prod.snd (Prod.snd ((fun (x_1 : Unit) => z0) r)))))))) ∨ (∃ (r : Int), (∃ (kp : z18), (((r ≠ (0 : Int)) ∧ (z20 = r)) ∧ (z40 ∧ (viewAll kp [(Prod.mk (2 : Nat) (D.v (Value.int IntKind.i64 (2 : Int))))] [z1] (Prod.fst (Prod.snd ((fun (e : Int) => (Prod.mk Exit.ret (Prod.mk [(Prod.mk (2 : Nat) (d_i e))] z17))) r))) (Prod.snd (Prod.snd ((fun (e : Int) => (Prod.mk Exit.ret (Prod.mk [(Prod.mk (2 : Nat) (d_i e))] z17))) r)))))))))))))) (True ∧ (True ∧ (pcond (z2 != (0 : Int)) (True ∧ (True ∧ ((∃ (r : Unit), (∃ (kp : z18), (z38 ∧ (z46 ∧ (viewAll kp [z9, z12, z13, z10, z8] [z1] (Prod.fst (Prod.snd ((fun (x_1 : Unit) => z0) r))) (Prod.snd (Prod.snd ((fun (x_1 : Unit) => z0) r)))))))) ∨ (∃ (r : Int), (∃ (kp : z18), (((r ≠ (0 : Int)) ∧ (z20 = r)) ∧ (z40 ∧ (viewAll kp [z34] [z1] (Prod.fst (Prod.snd ((fun (e : Int) => (Prod.mk Exit.ret (Prod.mk [(Prod.mk (2 : Nat) (d_i e))] z17))) r))) (Prod.snd (Prod.snd ((fun (e : Int) => (Prod.mk Exit.ret (Prod.mk [(Prod.mk (2 : Nat) (d_i e))] z17))) r))))))))))) (True ∧ (True ∧ (True ∧ (∃ (y : Nat), (∃ (kp : z18), (((z4 - y) < (z4 - x)) ∧ ((z48 ∧ ((y ≤ z4) ∧ (∀ (j : Nat), ((j < y) → ((e3S s j) = (0 : Int)))))) ∧ (viewAll kp [z9, z12, z13, z10, z8, z25] [z1] [z9, z31, z32, z28, z29, (Prod.mk (11 : Nat) (d_i ((y : Nat) : Int)))] [z22])))))))))))))))))))) (True ∧ (True ∧ (True ∧ (pcond (z2 != (0 : Int)) (True ∧ (True ∧ ((∃ (r : Unit), (∃ (kp : z18), (z38 ∧ (z46 ∧ (viewAll kp [z9, z12, z13, z10, z8] [z1] (Prod.fst (Prod.snd ((fun (x_1 : Unit) => z0) r))) (Prod.snd (Prod.snd ((fun (x_1 : Unit) => z0) r)))))))) ∨ (∃ (r : Int), (∃ (kp : z18), (((r ≠ (0 : Int)) ∧ (z20 = r)) ∧ (z40 ∧ (viewAll kp [z34] [z1] (Prod.fst (Prod.snd ((fun (e : Int) => (Prod.mk Exit.ret (Prod.mk [(Prod.mk (2 : Nat) (d_i e))] z17))) r))) (Prod.snd (Prod.snd ((fun (e : Int) => (Prod.mk Exit.ret (Prod.mk [(Prod.mk (2 : Nat) (d_i e))] z17))) r))))))))))) (True ∧ (True ∧ (True ∧ (∃ (y : Nat), (∃ (kp : z18), (((z4 - y) < (z4 - x)) ∧ ((z48 ∧ ((y ≤ z4) ∧ (∀ (j : Nat), ((j < y) → ((e3S s j) = (0 : Int)))))) ∧ (viewAll kp [z9, z12, z13, z10, z8, z25] [z1] [z9, z31, z32, z28, z29, (Prod.mk (11 : Nat) (d_i ((y : Nat) : Int)))] [z22])))))))))))))))))))))))))))))) ((∃ (r : Unit), (∃ (kp : z18), (z38 ∧ ((z21 = z21) ∧ (viewAll kp [z9, z12, z13, z10, z8] [z1] (Prod.fst (Prod.snd ((fun (x_1 : Unit) => z0) r))) (Prod.snd (Prod.snd ((fun (x_1 : Unit) => z0) r)))))))) ∨ (∃ (r : Int), (∃ (kp : z18), (((r ≠ (0 : Int)) ∧ (z20 = r)) ∧ ((z21 = Exit.ret) ∧ (viewAll kp ([] : List (Prod Nat D)) [z1] (Prod.fst (Prod.snd ((fun (e : Int) => (Prod.mk Exit.ret (Prod.mk [(Prod.mk (2 : Nat) (d_i e))] z17))) r))) (Prod.snd (Prod.snd ((fun (e : Int) => (Prod.mk Exit.ret (Prod.mk [(Prod.mk (2 : Nat) (d_i e))] z17))) r)))))))))))))) (by kernel_rfl) ?_
  obtain ⟨hc, hx, hall⟩ := hJ
  obtain ⟨f1, f2, f3, f4⟩ := cntS_few hc
  simp only [true_and, and_true, and_self, IsInt_lit, IsBool_lit, IsStr_lit, IsSl_lit, cellN_lit, cellL_lit, Bool.not_eq_true', Bool.not_eq_false', Bool.not_true, Bool.not_false, Int.reduceLE, Int.reduceLT, Int.reduceNeg, Nat.le_refl, Int.le_refl, Nat.reduceLT, Nat.reduceLeDiff, Nat.reduceEqDiff, D.v.injEq, D.tup.injEq, D.agg.injEq, D.ro.injEq, List.cons.injEq, Value.int.injEq, Value.bool.injEq, pcond_true, pcond_false, NamelessL, Nameless, Nat.reduceMul, Nat.reduceAdd, Nat.zero_add, Int.toNat_natCast]
  refine pcond_intro (fun h => ?_) (fun h => .inl ⟨(), [some 0], ?_, ?_⟩)
  · simp only [decide_eq_true_eq] at h
    have hxa : x < s.so.length := by omega
    have ga := srcsD_get s.so x hxa
    have ha := srcsD_length s.so
    have hsz : (s.so.getD x default).n.size ≤ maxLen := (hpre.2.2.2.1.2 _ (getD_mem hxa)).1
    have hl3 := nm3_len s s.bu.length s.li.length x 0
    simp only [Nat.add_zero, ga, cellStr_lit, IsStr_lit, cellInt_lit, IsInt_lit, wrap_succ hxa (show s.so.length ≤ 9223372036854775807 by omega), true_and, and_true, unBus_D, unLin_D, unSrc_D, unBay_D, StnOk_lit, BusOk_lit, stn_eta, imp_eta, Int.toNat_natCast]
    have nx : e3S s x = 0 → _ := next_all hall
    have rt : ∀ e, e3S s x = e → e ≠ 0 → firstE (e3S s) s.so.length = e := fun e he h0 => by rw [firstE_at hxa hall (by rw [he]; exact h0), he]
    have ev : e3S s x = orE (nmdS (nm3 s s.bu.length s.li.length x 0) (s.so.getD x default).n) (bif srcB (s.so.getD x default).emf (s.so.getD x default).z1 (s.so.getD x default).z0 then 0 else 2) := rfl
    generalize nmdS (nm3 s s.bu.length s.li.length x 0) (s.so.getD x default).n = q at *
    refine ⟨⟨⟨okStn_lens hpre, hpre⟩, ⟨f1, f2, f3, f4⟩, by omega, by omega, by omega, by omega⟩, ⟨by omega, by omega⟩, by omega, ⟨by simp only [maxLen]; omega, hsz⟩, pcond_intro (fun h1 => ?_) (fun h1 => pcond_intro (fun h2 => ?_) (fun h2 => ?_))⟩
    · rw [beq_iff_eq] at h1
      subst h1
      rw [show orE 0 = id from rfl, id] at ev
      refine ⟨⟨by omega, by omega⟩, by omega, pcond_intro (fun h2 => .inr ⟨2, [], ⟨by decide, rt 2 (by rw [ev]; rw [Bool.not_eq_true'] at h2; rw [h2]; rfl) (by decide)⟩, ⟨rfl, rfl, ⟨trivial, rfl⟩, trivial⟩⟩) (fun h2 => ?_)⟩
      rw [Bool.not_eq_false'] at h2
      refine pcond_intro (fun h4 => absurd h4 (by decide)) (fun _ => ?_)
      exact ⟨x + 1, [some 0], by omega, ⟨hc, by omega, nx (by rw [ev, h2]; rfl)⟩, ⟨rfl, ⟨⟨rfl, stnD_nl s⟩, rfl⟩, ⟨trivial, rfl⟩, ⟨trivial, rfl⟩, ⟨trivial, rfl⟩, ⟨trivial, rfl⟩, ⟨trivial, rfl⟩, ⟨trivial, rfl⟩, trivial⟩⟩
    · rw [bne_iff_ne] at h2
      exact .inr ⟨q, [], ⟨h2, rt q (by rw [ev]; exact orE_ne h2) h2⟩, ⟨rfl, rfl, ⟨trivial, rfl⟩, trivial⟩⟩
    · exfalso; rw [bne_eq_false_iff_eq] at h2; rw [beq_eq_false_iff_ne] at h1; exact h1 h2
  · simp only [decide_eq_false_iff_not] at h
    exact firstE_zero fun j hj => hall j (by omega)
  · exact ⟨rfl, ⟨⟨rfl, stnD_nl s⟩, rfl⟩, ⟨trivial, rfl⟩, ⟨trivial, rfl⟩, ⟨trivial, rfl⟩, ⟨trivial, rfl⟩, ⟨trivial, rfl⟩, trivial⟩
def lp_rck4 (s : Stn) : LoopO := loopRule2 (α := Nat) (β := Unit) (γ := Int) [some 0] (fun i => cntS s = true ∧ i ≤ s.ba.length ∧ ∀ j, j < i → e4S s j = 0) (fun i => [(1, .ptr 0 0), (3, d_i (s.bu.length : Int)), (4, d_i (s.li.length : Int)), (5, d_i (s.so.length : Int)), (6, d_i (s.ba.length : Int)), (13, d_i (i : Int))]) (fun i => [some ⟨27, d_stnL s, true⟩]) (0) (fun _ => firstE (e4S s) s.ba.length = 0) (fun _ => (.exit 6, [], [])) (fun e => e ≠ 0 ∧ firstE (e4S s) s.ba.length = e) (fun e => (.ret, [(2, d_i e)], []))
theorem rck4_rule (s : Stn) (hpre : okStn s) : LRuleP Tryz.prog Tryz.f15.ntmps (loopAt ((Tryz.f15.body).getD .skip) 29) (lp_rck4 s) := by
  refine lrule_of2 (α := Nat) (β := Unit) (γ := Int) (call := (addPure 39 ent_rnames (addPure 38 ent_rnamed (addPure 42 ent_rbay noCalls)))) (lp := fun _ => none) (N := 10) T_ok mixed (addPure_ok ent_rnames_ok (addPure_ok ent_rnamed_ok (addPure_ok ent_rbay_ok noCalls_ok))) (fun i => s.ba.length - i) (by kernel_rfl) (LpAllP.none _) ?_
  intro x hJ
  refine of_eq (B := letI z22 := (List.length (Stn.bu s)); letI z32 := (busesD (Stn.bu s)); letI z23 := (List.length (Stn.li s)); letI z33 := (linesD (Stn.li s)); letI z24 := (List.length (Stn.so s)); letI z34 := (srcsD (Stn.so s)); letI z2 := (List.length (Stn.ba s)); letI z17 := (baysD (Stn.ba s)); letI z0 := (Option.some (Blk.mk (27 : Nat) [(D.v (Value.string (Stn.n s))), (D.ro z22 z32), (D.ro z23 z33), (D.ro z24 z34), (D.ro z2 z17)] Bool.true)); letI z5 := (Stn.mk (Stn.n s) (unBus z32) (unLin z33) (unSrc z34) (unBay z17)); letI z6 := ((z22 : Nat) : Int); letI z7 := ((z23 : Nat) : Int); letI z8 := ((z24 : Nat) : Int); letI z10 := ((x : Nat) : Int); letI z30 := Int.toNat z10; letI z1 := (nm3 z5 (Int.toNat z6) (Int.toNat z7) (Int.toNat z8) z30); letI z18 := (Exit.exit (6 : Nat)); letI z19 := ([] : List (Prod Nat D)); letI z13 := ([] : List (Option Blk)); letI z3 := (Prod.mk z18 (Prod.mk z19 z13)); letI z35 := ((z30 * (12 : Nat)) + (0 : Nat)); letI z4 := (List.getD z17 z35 (Inhabited.default)); letI z9 := (bayErr z22 z23 z24 (unBay z17) z30 (List.getD (unBay z17) z30 (Inhabited.default))); letI z11 := (StnOk z5 z22 z23 z24 z2 z32 z33 z34 z17); letI z12 := (Prod.mk (1 : Nat) (D.ptr (0 : Nat) (0 : Nat))); letI z14 := (List (Option Nat)); letI z15 := ((z2 : Nat) : Int); letI z16 := (Prod.mk (13 : Nat) (D.v (Value.int IntKind.i64 (IntKind.wrap IntKind.i64 (z10 + (1 : Int)))))); letI z20 := (firstE (e4S s) z2); letI z21 := (nmdS (unBus (busesD z1)) (cellStr z4)); letI z25 := (Option.some (Blk.mk (27 : TypeId) (d_stnL s) Bool.true)); letI z26 := (Prod.mk (6 : Nat) (D.v (Value.int IntKind.i64 z15))); letI z27 := (Prod.mk (3 : Nat) (D.v (Value.int IntKind.i64 z6))); letI z28 := (Prod.mk (4 : Nat) (D.v (Value.int IntKind.i64 z7))); letI z29 := (Prod.mk (5 : Nat) (D.v (Value.int IntKind.i64 z8))); letI z44 := ((0 : Int) ≤ z10); letI z31 := (z44 ∧ (z10 < z15)); letI z36 := (z20 = (0 : Int)); letI z37 := (Prod.mk (6 : Nat) (d_i z15)); letI z38 := (Prod.mk (3 : Nat) (d_i z6)); letI z39 := (Prod.mk (4 : Nat) (d_i z7)); letI z40 := (Prod.mk (5 : Nat) (d_i z8)); letI z41 := ((5 : Nat) ≤ (5 : Nat)); letI z42 := ((cntS s) = Bool.true); letI z43 := Exit.ret = Exit.ret; (True ∧ (True ∧ (True ∧ (pcond (Decidable.decide (z10 < z15)) (z41 ∧ (True ∧ (True ∧ (True ∧ (True ∧ ((z11 ∧ ((fewS z5) ∧ ((((0 : Int) ≤ z6) ∧ (z6 ≤ z6)) ∧ ((((0 : Int) ≤ z7) ∧ (z7 ≤ z7)) ∧ ((((0 : Int) ≤ z8) ∧ (z8 ≤ z8)) ∧ (z44 ∧ (z10 ≤ z15))))))) ∧ (True ∧ (((4 : Nat) < (5 : Nat)) ∧ (True ∧ (z31 ∧ (True ∧ (((z35 < (List.length z17)) ∧ (IsStr z4)) ∧ (((BusOk (List.length z1) (busesD z1)) ∧ ((ByteArray.size (cellStr z4)) ≤ (9223372036854775807 : Nat))) ∧ (True ∧ ((Bool.true = Bool.true) ∧ (True ∧ (True ∧ (pcond (z21 == (0 : Int)) (z41 ∧ (True ∧ ((z11 ∧ z31) ∧ (True ∧ (True ∧ (True ∧ (pcond (z9 != (0 : Int)) (True ∧ (True ∧ ((∃ (r : Unit), (∃ (kp : z14), (z36 ∧ ((Exit.ret = z18) ∧ (viewAll kp z19 [z0] (Prod.fst (Prod.snd ((fun (x_1 : Unit) => z3) r))) (Prod.snd (Prod.snd ((fun (x_1 : Unit) => z3) r)))))))) ∨ (∃ (r : Int), (∃ (kp : z14), (((r ≠ (0 : Int)) ∧ (z20 = r)) ∧ (z43 ∧ (viewAll kp [(Prod.mk (2 : Nat) (D.v (Value.int IntKind.i64 z9)))] [z0] (Prod.fst (Prod.snd ((fun (e : Int) => (Prod.mk Exit.ret (Prod.mk [(Prod.mk (2 : Nat) (d_i e))] z13))) r))) (Prod.snd (Prod.snd ((fun (e : Int) => (Prod.mk Exit.ret (Prod.mk [(Prod.mk (2 : Nat) (d_i e))] z13))) r))))))))))) (True ∧ (True ∧ (True ∧ (∃ (y : Nat), (∃ (kp : z14), (((z2 - y) < (z2 - x)) ∧ ((z42 ∧ ((y ≤ z2) ∧ (∀ (j : Nat), ((j < y) → ((e4S s j) = (0 : Int)))))) ∧ (viewAll kp [z12, z27, z28, z29, z26, z16] [z0] [z12, z38, z39, z40, z37, (Prod.mk (13 : Nat) (d_i ((y : Nat) : Int)))] [z25]))))))))))))))) (True ∧ (True ∧ (pcond (z21 != (0 : Int)) (True ∧ (True ∧ ((∃ (r : Unit), (∃ (kp : z14), (z36 ∧ ((Exit.ret = z18) ∧ (viewAll kp z19 [z0] (Prod.fst (Prod.snd ((fun (x_1 : Unit) => z3) r))) (Prod.snd (Prod.snd ((fun (x_1 : Unit) => z3) r)))))))) ∨ (∃ (r : Int), (∃ (kp : z14), (((r ≠ (0 : Int)) ∧ (z20 = r)) ∧ (z43 ∧ (viewAll kp [(Prod.mk (2 : Nat) (D.v (Value.int IntKind.i64 z21)))] [z0] (Prod.fst (Prod.snd ((fun (e : Int) => (Prod.mk Exit.ret (Prod.mk [(Prod.mk (2 : Nat) (d_i e))] z13))) r))) (Prod.snd (Prod.snd ((fun (e : Int) => (Prod.mk Exit.ret (Prod.mk [(Prod.mk (2 : Nat) (d_i e))] z13))) r))))))))))) (True ∧ (True ∧ (True ∧ (∃ (y : Nat), (∃ (kp : z14), (((z2 - y) < (z2 - x)) ∧ ((z42 ∧ ((y ≤ z2) ∧ (∀ (j : Nat), ((j < y) → ((e4S s j) = (0 : Int)))))) ∧ (viewAll kp [z12, z27, z28, z29, z26, z16] [z0] [z12, z38, z39, z40, z37, (Prod.mk (13 : Nat) (d_i ((y : Nat) : Int)))] [z25]))))))))))))))))))))))))))))) ((∃ (r : Unit), (∃ (kp : z14), (z36 ∧ ((z18 = z18) ∧ (viewAll kp z19 [z0] (Prod.fst (Prod.snd ((fun (x_1 : Unit) => z3) r))) (Prod.snd (Prod.snd ((fun (x_1 : Unit) => z3) r)))))))) ∨ (∃ (r : Int), (∃ (kp : z14), (((r ≠ (0 : Int)) ∧ (z20 = r)) ∧ ((z18 = Exit.ret) ∧ (viewAll kp z19 [z0] (Prod.fst (Prod.snd ((fun (e : Int) => (Prod.mk Exit.ret (Prod.mk [(Prod.mk (2 : Nat) (d_i e))] z13))) r))) (Prod.snd (Prod.snd ((fun (e : Int) => (Prod.mk Exit.ret (Prod.mk [(Prod.mk (2 : Nat) (d_i e))] z13))) r)))))))))))))) (by kernel_rfl) ?_
  obtain ⟨hc, hx, hall⟩ := hJ
  obtain ⟨f1, f2, f3, f4⟩ := cntS_few hc
  simp only [true_and, and_true, and_self, IsInt_lit, IsBool_lit, IsStr_lit, IsSl_lit, cellN_lit, cellL_lit, Bool.not_eq_true', Bool.not_eq_false', Bool.not_true, Bool.not_false, Int.reduceLE, Int.reduceLT, Int.reduceNeg, Nat.le_refl, Int.le_refl, Nat.reduceLT, Nat.reduceLeDiff, Nat.reduceEqDiff, D.v.injEq, D.tup.injEq, D.agg.injEq, D.ro.injEq, List.cons.injEq, Value.int.injEq, Value.bool.injEq, pcond_true, pcond_false, NamelessL, Nameless, Nat.reduceMul, Nat.reduceAdd, Nat.zero_add, Int.toNat_natCast]
  refine pcond_intro (fun h => ?_) (fun h => .inl ⟨(), [], ?_, ?_⟩)
  · simp only [decide_eq_true_eq] at h
    have hxa : x < s.ba.length := by omega
    have ga := baysD_get s.ba x hxa
    have ha := baysD_length s.ba
    have hsz : (s.ba.getD x default).n.size ≤ maxLen := (hpre.2.2.2.2.2 _ (getD_mem hxa)).1
    have hl3 := nm3_len s s.bu.length s.li.length s.so.length x
    simp only [Nat.add_zero, ga, cellStr_lit, IsStr_lit, cellInt_lit, IsInt_lit, wrap_succ hxa (show s.ba.length ≤ 9223372036854775807 by omega), true_and, and_true, unBus_D, unLin_D, unSrc_D, unBay_D, StnOk_lit, BusOk_lit, stn_eta, imp_eta, Int.toNat_natCast]
    have nx : e4S s x = 0 → _ := next_all hall
    have rt : ∀ e, e4S s x = e → e ≠ 0 → firstE (e4S s) s.ba.length = e := fun e he h0 => by rw [firstE_at hxa hall (by rw [he]; exact h0), he]
    have ev : e4S s x = orE (nmdS (nm3 s s.bu.length s.li.length s.so.length x) (s.ba.getD x default).n) (bayErr s.bu.length s.li.length s.so.length s.ba x (s.ba.getD x default)) := rfl
    generalize nmdS (nm3 s s.bu.length s.li.length s.so.length x) (s.ba.getD x default).n = q at *
    refine ⟨⟨⟨okStn_lens hpre, hpre⟩, ⟨f1, f2, f3, f4⟩, by omega, by omega, by omega, by omega⟩, ⟨by omega, by omega⟩, by omega, ⟨by simp only [maxLen]; omega, hsz⟩, pcond_intro (fun h1 => ?_) (fun h1 => pcond_intro (fun h2 => ?_) (fun h2 => ?_))⟩
    · rw [beq_iff_eq] at h1
      subst h1
      rw [show orE 0 = id from rfl, id] at ev
      rw [← ev]
      refine ⟨⟨⟨okStn_lens hpre, hpre⟩, by omega, by omega⟩, pcond_intro (fun h2 => ?_) (fun h2 => ?_)⟩
      · rw [bne_iff_ne] at h2
        exact .inr ⟨e4S s x, [], ⟨h2, rt _ rfl h2⟩, ⟨rfl, rfl, ⟨trivial, rfl⟩, trivial⟩⟩
      · rw [bne_eq_false_iff_eq] at h2
        exact ⟨x + 1, [some 0], by omega, ⟨hc, by omega, nx h2⟩, ⟨rfl, ⟨⟨rfl, stnD_nl s⟩, rfl⟩, ⟨trivial, rfl⟩, ⟨trivial, rfl⟩, ⟨trivial, rfl⟩, ⟨trivial, rfl⟩, ⟨trivial, rfl⟩, ⟨trivial, rfl⟩, trivial⟩⟩
    · rw [bne_iff_ne] at h2
      exact .inr ⟨q, [], ⟨h2, rt q (by rw [ev]; exact orE_ne h2) h2⟩, ⟨rfl, rfl, ⟨trivial, rfl⟩, trivial⟩⟩
    · exfalso; rw [bne_eq_false_iff_eq] at h2; rw [beq_eq_false_iff_ne] at h1; exact h1 h2
  · simp only [decide_eq_false_iff_not] at h
    exact firstE_zero fun j hj => hall j (by omega)
  · exact ⟨rfl, rfl, trivial⟩
theorem rcheck_pure (s : Stn) (hpre : okStn s) : PureJ Tryz.prog 15 [.agg (d_stnL s)] (.v (.int .i64 (chkS s))) := by
  refine pureJ_of_vcp (call := (addPure 37 ent_rname noCalls)) (lp := fun reg__ => bif Nat.beq reg__ 7 then some (lp_rck1 s) else bif Nat.beq reg__ 13 then some (lp_rck2 s) else bif Nat.beq reg__ 21 then some (lp_rck3 s) else bif Nat.beq reg__ 29 then some (lp_rck4 s) else none) (N := 10) T_ok mixed (addPure_ok ent_rname_ok noCalls_ok) Tryz.func15 rfl (by decide) (by kernel_rfl) (by kernel_rfl) (of_eq (B := letI z0 := ((Tryz.f15.body).getD .skip); LRuleP Tryz.prog Tryz.f15.ntmps (loopAt z0 7) (lp_rck1 s) ∧ LRuleP Tryz.prog Tryz.f15.ntmps (loopAt z0 13) (lp_rck2 s) ∧ LRuleP Tryz.prog Tryz.f15.ntmps (loopAt z0 21) (lp_rck3 s) ∧ LRuleP Tryz.prog Tryz.f15.ntmps (loopAt z0 29) (lp_rck4 s) ∧ True) (by kernel_rfl) ⟨rck1_rule s hpre, ⟨rck2_rule s hpre, ⟨rck3_rule s hpre, ⟨rck4_rule s hpre, trivial⟩⟩⟩⟩) (by first | exact ⟨stnD_nl s, trivial⟩ | trivial) (by first | exact ⟨stnD_nl s, trivial⟩ | trivial) ?_
  refine of_eq (B := letI z24 := Bool.true = Bool.true; letI z11 := (D.v (Value.string (Stn.n s))); letI z4 := (List.length (Stn.bu s)); letI z17 := (D.ro z4 (busesD (Stn.bu s))); letI z5 := (List.length (Stn.li s)); letI z18 := (D.ro z5 (linesD (Stn.li s))); letI z6 := (List.length (Stn.so s)); letI z19 := (D.ro z6 (srcsD (Stn.so s))); letI z7 := (List.length (Stn.ba s)); letI z20 := (D.ro z7 (baysD (Stn.ba s))); letI z2 := (Option.some (Blk.mk (27 : Nat) [z11, z17, z18, z19, z20] Bool.true)); letI z23 := ([] : List (Option Blk)); letI z21 := (D.ptr (0 : Nat) (0 : Nat)); letI z12 := ((z4 : Nat) : Int); letI z16 := (D.v (Value.int IntKind.i64 z12)); letI z13 := (D.v (Value.int IntKind.i64 ((z5 : Nat) : Int))); letI z14 := (D.v (Value.int IntKind.i64 ((z6 : Nat) : Int))); letI z15 := (D.v (Value.int IntKind.i64 ((z7 : Nat) : Int))); letI z8 := (D.v (Value.int IntKind.i64 (0 : Int))); letI z0 := (z24 ∧ ((((z2 = z2) ∧ (NamelessL [z11, z17, z18, z19, z20])) ∧ (z23 = z23)) ∧ ((True ∧ (z21 = z21)) ∧ ((True ∧ (z16 = z16)) ∧ ((True ∧ (z13 = z13)) ∧ ((True ∧ (z14 = z14)) ∧ ((True ∧ (z15 = z15)) ∧ ((True ∧ (z8 = z8)) ∧ True)))))))); letI z3 := (D.v (Value.int IntKind.i64 (chkS s))); letI z1 := (True ∧ (True ∧ (True ∧ ((D.v (Value.int IntKind.i64 (3 : Int))) = z3)))); letI z9 := (True ∧ (True ∧ (True ∧ z1))); letI z10 := ((cntS s) = Bool.true); letI z22 := (True ∧ (True ∧ z9)); letI z25 := (firstE (e1S s) z4); letI z26 := (firstE (e2S s) z5); letI z27 := (firstE (e3S s) z6); letI z28 := (firstE (e4S s) z7); (True ∧ (True ∧ (True ∧ ((((0 : Nat) < (5 : Nat)) ∧ (IsStr z11)) ∧ (((ByteArray.size (Stn.n s)) ≤ (9223372036854775807 : Nat)) ∧ (True ∧ (pcond (!(nameS (Stn.n s))) (True ∧ (True ∧ (True ∧ ((D.v (Value.int IntKind.i64 (7 : Int))) = z3)))) (True ∧ (((1 : Nat) < (5 : Nat)) ∧ (True ∧ (True ∧ (((2 : Nat) < (5 : Nat)) ∧ (True ∧ (True ∧ (((3 : Nat) < (5 : Nat)) ∧ (True ∧ (True ∧ (((4 : Nat) < (5 : Nat)) ∧ (True ∧ (True ∧ (True ∧ (True ∧ (True ∧ (z24 ∧ (True ∧ (True ∧ (True ∧ (pcond (Decidable.decide (z12 < (1 : Int))) (True ∧ (True ∧ z22)) (True ∧ (True ∧ (True ∧ (True ∧ (pcond (Decidable.decide ((4 : Int) < z12)) z22 (True ∧ (True ∧ (True ∧ (True ∧ (pcond (Decidable.decide ((6 : Int) < ((z5 : Nat) : Int))) z9 (True ∧ (True ∧ (True ∧ (True ∧ (pcond (Decidable.decide ((4 : Int) < ((z6 : Nat) : Int))) (True ∧ z1) (True ∧ (True ∧ (True ∧ (pcond (Decidable.decide ((16 : Int) < ((z7 : Nat) : Int))) z1 (True ∧ ((z10 ∧ (((0 : Nat) ≤ z4) ∧ (∀ (j : Nat), ((j < (0 : Nat)) → ((e1S s j) = (0 : Int)))))) ∧ (z0 ∧ ((Unit → ((z25 = (0 : Int)) → (True ∧ ((z10 ∧ (((0 : Nat) ≤ z5) ∧ (∀ (j : Nat), ((j < (0 : Nat)) → ((e2S s j) = (0 : Int)))))) ∧ (z0 ∧ ((Unit → ((z26 = (0 : Int)) → (True ∧ ((z10 ∧ (((0 : Nat) ≤ z6) ∧ (∀ (j : Nat), ((j < (0 : Nat)) → ((e3S s j) = (0 : Int)))))) ∧ (z0 ∧ ((Unit → ((z27 = (0 : Int)) → (True ∧ ((z10 ∧ (((0 : Nat) ≤ z7) ∧ (∀ (j : Nat), ((j < (0 : Nat)) → ((e4S s j) = (0 : Int)))))) ∧ (z0 ∧ ((Unit → ((z28 = (0 : Int)) → (True ∧ (True ∧ (True ∧ (z8 = z3)))))) ∧ (∀ (r : Int), (((r ≠ (0 : Int)) ∧ (z28 = r)) → (True ∧ (True ∧ ((D.v (Value.int IntKind.i64 r)) = z3))))))))))) ∧ (∀ (r : Int), (((r ≠ (0 : Int)) ∧ (z27 = r)) → (True ∧ (True ∧ ((D.v (Value.int IntKind.i64 r)) = z3))))))))))) ∧ (∀ (r : Int), (((r ≠ (0 : Int)) ∧ (z26 = r)) → (True ∧ (True ∧ ((D.v (Value.int IntKind.i64 r)) = z3))))))))))) ∧ (∀ (r : Int), (((r ≠ (0 : Int)) ∧ (z25 = r)) → (True ∧ (True ∧ ((D.v (Value.int IntKind.i64 r)) = z3))))))))))))))))))))))))))))))))))))))))))))))))))))))))) (by kernel_rfl) ?_
  simp only [true_and, and_true, and_self, IsInt_lit, IsBool_lit, IsStr_lit, IsSl_lit, cellN_lit, cellL_lit, Bool.not_eq_true', Bool.not_eq_false', Bool.not_true, Bool.not_false, Int.reduceLE, Int.reduceLT, Int.reduceNeg, Nat.le_refl, Int.le_refl, Nat.reduceLT, Nat.reduceLeDiff, Nat.reduceEqDiff, D.v.injEq, D.tup.injEq, D.agg.injEq, D.ro.injEq, List.cons.injEq, Value.int.injEq, Value.bool.injEq, pcond_true, pcond_false, NamelessL, Nameless, Nat.reduceMul, Nat.reduceAdd, Nat.zero_add, Int.toNat_natCast]
  have nA : NamelessL (busesD s.bu) ∧ NamelessL (linesD s.li) ∧ NamelessL (srcsD s.so) ∧ NamelessL (baysD s.ba) := ⟨busesD_nl s.bu, linesD_nl s.li, srcsD_nl s.so, baysD_nl s.ba⟩
  have e1 : ∀ (k n : Nat), decide ((k : Int) < (n : Int)) = decide (k < n) := fun k n => by rw [Bool.eq_iff_iff]; simp
  have g0 := e1 s.bu.length 1
  have g1 := e1 4 s.bu.length
  have g2 := e1 6 s.li.length
  have g3 := e1 4 s.so.length
  have g4 := e1 16 s.ba.length
  simp only [Int.ofNat_eq_natCast, Int.cast_ofNat_Int] at g0 g1 g2 g3 g4
  rw [show decide ((s.bu.length : Int) < 1) = decide (s.bu.length < 1) from g0, g1, g2, g3, g4]
  refine ⟨hpre.1, pcond_intro (fun h => by rw [Bool.not_eq_true'] at h; unfold chkS; rw [h]; rfl) (fun h => ?_)⟩
  rw [Bool.not_eq_false'] at h
  have ev : chkS s = bif cntS s then elsE s else 3 := by unfold chkS; rw [h]; rfl
  rw [ev]
  refine pcond_intro (fun h1 => by unfold cntS; rw [h1]; rfl) (fun h1 => pcond_intro (fun h2 => by unfold cntS; rw [h1, h2]; rfl) (fun h2 => pcond_intro (fun h3 => by unfold cntS; rw [h1, h2, h3]; rfl) (fun h3 => pcond_intro (fun h4 => by unfold cntS; rw [h1, h2, h3, h4]; rfl) (fun h4 => pcond_intro (fun h5 => by unfold cntS; rw [h1, h2, h3, h4, h5]; rfl) (fun h5 => ?_)))))
  have hc : cntS s = true := by unfold cntS; rw [h1, h2, h3, h4, h5]; rfl
  rw [hc, cond_true]
  unfold elsE
  have z0 : ∀ f : Nat → Int, ∀ j, j < 0 → f j = 0 := fun f j h => absurd h (Nat.not_lt_zero _)
  refine ⟨⟨rfl, Nat.zero_le _, z0 _⟩, nA, fun _ r1 => ⟨⟨rfl, Nat.zero_le _, z0 _⟩, nA, fun _ r2 => ⟨⟨rfl, Nat.zero_le _, z0 _⟩, nA, fun _ r3 => ⟨⟨rfl, Nat.zero_le _, z0 _⟩, nA, fun _ r4 => ?_, fun e he => ?_⟩, fun e he => ?_⟩, fun e he => ?_⟩, fun e he => ?_⟩
  · rw [r1, r2, r3, r4]; rfl
  · rw [r1, r2, r3, he.2]; rfl
  · rw [r1, r2, he.2, orE_ne he.1]; rfl
  · rw [r1, he.2, orE_ne he.1]; rfl
  · rw [he.2, orE_ne he.1]
def ent_rcheck : Ent := ent1 fun s => .int .i64 (chkS s)
theorem ent_rcheck_ok : EntOk Tryz.prog 15 ent_rcheck := ent1_of _ _ fun s h => rcheck_pure s h
end Go.Proofs.YtfleadelfklenaaGreatDoor
end
section
namespace Go.Proofs.YtfleadelfklenaaGreatDoor
open Go.VD
set_option linter.unusedVariables false
set_option linter.unusedSimpArgs false
set_option maxRecDepth 100000
end Go.Proofs.YtfleadelfklenaaGreatDoor
end
section
namespace Go.VD
set_option linter.unusedVariables false
set_option linter.unusedSimpArgs false
structure PtrJ (P : Program) (g : FuncId) (off : Nat) (plain : List D) (blk : Blk) (d : D) (blk' : Blk) : Prop where
  call : CallJ P g (.ptr 0 off :: plain) [some blk] d [some blk']
  plain : NamelessL plain
  res : Nameless d
  cs : NamelessL blk.cs
  cs' : NamelessL blk'.cs
end Go.VD
end
section
namespace Go.VD
set_option linter.unusedVariables false
set_option linter.unusedSimpArgs false
theorem DWK.scopeJump {k : Nat} {P : Program} {nt : Nat} {α : Type} {l : Nat} (J : α → Prop) (I : α → Env) (HI : α → Heap) (μ : α → Nat) {c rest : Code} {Q : Exit → Env → Heap → Prop} {env : Env} {H : Heap} (hf : findLabel c l = some rest)
    (first : DWK k P nt c (jumpQ l (fun env' H' => ∃ y, J y ∧ ViewK k nt env' H' (I y) (HI y)) Q) env H)
    (pass : ∀ x, J x → DWK k P nt rest (jumpQ l (fun env' H' => ∃ y, μ y < μ x ∧ J y ∧ ViewK k nt env' H' (I y) (HI y)) Q) (I x) (HI x)) : DWK k P nt (.scope c) Q env H := by
  intro hk ρ S w a hi
  refine wp_scope_ghost l (fun n a' w' => ∃ x ρ' S', μ x = n ∧ J x ∧ k ≤ (HI x).length ∧ Inv nt ρ' S' w' (HI x) (I x) a' ∧ (ctx ρ S w H).lek k (ctx ρ' S' w' (HI x))) hf ?_ ?_
  · refine wp_mono (first hk ρ S w a hi) fun e a' w' ⟨env', H', ρ', S', h1, h2, h3, h4⟩ => ?_
    cases e with
    | goto l' =>
      obtain ⟨rfl, y, hJ, v⟩ := h1
      obtain ⟨hk2, v⟩ := v h2
      obtain ⟨ρ3, S3, hi3, hle3⟩ := v ρ' S' w' a' h3
      exact ⟨rfl, μ y, y, ρ3, S3, rfl, hJ, hk2, hi3, h4.trans hle3⟩
    | _ => exact ⟨env', H', ρ', S', h1, h2, h3, h4⟩
  · rintro n a' w' ⟨x, ρ', S', rfl, hx, hkx, hi', hle⟩
    refine wp_mono (pass x hx hkx ρ' S' w' a' hi') fun e a'' w'' ⟨env', H', ρ'', S'', h1, h2, h3, h4⟩ => ?_
    cases e with
    | goto l' =>
      obtain ⟨rfl, y, hy, hJ, v⟩ := h1
      obtain ⟨hk2, v⟩ := v h2
      obtain ⟨ρ3, S3, hi3, hle3⟩ := v ρ'' S'' w'' a'' h3
      exact ⟨rfl, μ y, hy, y, ρ3, S3, rfl, hJ, hk2, hi3, (hle.trans h4).trans hle3⟩
    | _ => exact ⟨env', H', ρ'', S'', h1, h2, h3, hle.trans h4⟩
section
variable {P : Program} {T : Tbl} (hT : TblOk P T) {nt N : Nat} {call : CallO} {lp : Nat → Option LoopO}
include hT
end
def RdTo (d0 d : D) : Prop := ∀ (E : Ctx) (u : Value), Rd E d0 u → Rd E d u
theorem RdTo.refl (d : D) : RdTo d d := fun _ _ h => h
theorem RdTo.nil : RdTo (.v (.slice none 0 0)) (.ro 0 []) := fun E u h => by
  simp only [Rd] at h; subst h
  simp only [Rd]
  exact ⟨by simp [NamelessL], none, 0, rfl, Nat.le_refl _, Nat.zero_le _, fun h => absurd h (Nat.lt_irrefl 0)⟩
end Go.VD
end
section
namespace Go.VD
set_option linter.unusedVariables false
set_option linter.unusedSimpArgs false
def setU : List (Nat × Option Blk) → Heap → Heap
  | [], H => H
  | (b, y) :: r, H => setU r (H.set b y)
theorem setU_length : ∀ (l : List (Nat × Option Blk)) (H : Heap), (setU l H).length = H.length
  | [], H => rfl
  | (b, y) :: r, H => by simp [setU, setU_length r]
theorem setU_get : ∀ (l : List (Nat × Option Blk)) (H : Heap) (b : Nat), (b ∉ l.map Prod.fst → (setU l H)[b]? = H[b]?) ∧ (∀ H1 : Heap, H1.length = H.length → b ∈ l.map Prod.fst → (setU l H1)[b]? = (setU l H)[b]?)
  | [], H, b => ⟨fun _ => rfl, fun H1 _ h => by simp at h⟩
  | (c, y) :: r, H, b => by
    refine ⟨fun h => ?_, fun H1 hl h => ?_⟩
    · simp only [List.map_cons, List.mem_cons, not_or] at h
      simp only [setU]
      rw [(setU_get r _ b).1 h.2, List.getElem?_set_ne (fun e => h.1 e.symm)]
    · simp only [setU]
      by_cases hr : b ∈ r.map Prod.fst
      · exact (setU_get r (H.set c y) b).2 (H1.set c y) (by simp [hl]) hr
      · have hb : b = c := by simpa [hr] using h
        subst hb
        rw [(setU_get r _ b).1 hr, (setU_get r _ b).1 hr]
        simp only [List.getElem?_set, hl, if_true]
abbrev EntF := List D → Heap → Option (D × List (Nat × Option Blk) × List Nat × Heap × Prop)
def EntFOk (P : Program) (g : FuncId) (e : EntF) : Prop := ∀ ds H d ups rs L p, e ds H = some (d, ups, rs, L, p) → p →
  ∀ H1 : Heap, (∀ b, b ∈ rs ∨ b ∈ ups.map Prod.fst → H1[b]? = H[b]?) → H1.length = H.length → CallJ P g ds H1 d (setU ups H1 ++ L)
def ltAll (n : Nat) : List Nat → Bool
  | [] => true
  | b :: r => Nat.ble (b + 1) n && ltAll n r
def notIn (b : Nat) : List Nat → Bool
  | [] => true
  | c :: r => !(Nat.beq b c) && notIn b r
def apart (ws : List Nat) : List Nat → Bool
  | [] => true
  | b :: r => notIn b ws && apart ws r
theorem ltAll_ok {n : Nat} : ∀ {l : List Nat}, ltAll n l = true → ∀ b ∈ l, b < n
  | [], _, b, hb => by simp at hb
  | c :: r, h, b, hb => by
    simp only [ltAll, Bool.and_eq_true] at h
    rcases List.mem_cons.1 hb with rfl | hb
    · exact Nat.le_of_ble_eq_true h.1
    · exact ltAll_ok h.2 b hb
theorem notIn_ok {b : Nat} : ∀ {l : List Nat}, notIn b l = true → b ∉ l
  | [], _ => by simp
  | c :: r, h => by
    simp only [notIn, Bool.and_eq_true, Bool.not_eq_true'] at h
    intro hm
    rcases List.mem_cons.1 hm with rfl | hm
    · have := h.1; simp at this
    · exact notIn_ok h.2 hm
theorem apart_ok {ws : List Nat} : ∀ {l : List Nat}, apart ws l = true → ∀ b ∈ l, b ∉ ws
  | [], _, b, hb => by simp at hb
  | c :: r, h, b, hb => by
    simp only [apart, Bool.and_eq_true] at h
    rcases List.mem_cons.1 hb with rfl | hb
    · exact notIn_ok h.1
    · exact apart_ok h.2 b hb
def fpOk (n : Nat) (ws rs : List Nat) : Bool := ltAll n (rs ++ ws) && apart ws rs
def domU : List (Nat × Option Blk) → List Nat
  | [] => []
  | (b, _) :: r => b :: domU r
theorem domU_eq : ∀ l, domU l = l.map Prod.fst
  | [] => rfl
  | (b, _) :: r => by simp [domU, domU_eq r]
def isNilH : Heap → Bool
  | [] => true
  | _ => false
def addF (f : FuncId) (e : EntF) (r : CallO) : CallO := fun g ds H K => bif Nat.beq g f then (match e ds H with
  | some (d, ups, rs, L, p) => some ((fpOk H.length (domU ups) rs = true ∧ p) ∧ K d (setU ups H ++ L) (bif isNilH L then .rw rs (domU ups) else .fp rs (domU ups) H.length))
  | none => none) else r g ds H K
theorem addF_ok {P : Program} {f : FuncId} {e : EntF} {r : CallO} (he : EntFOk P f e) (hr : CallOK P r) : CallOK P (addF f e r) := by
  intro g ds H K p h hp
  unfold addF at h
  cases hg : Nat.beq g f with
  | false => rw [hg] at h; exact hr g ds H K p h hp
  | true =>
    rw [hg] at h
    have hgf : g = f := Nat.eq_of_beq_eq_true hg
    subst hgf
    simp only [cond_true] at h
    split at h
    · rename_i d ups rs L q hq
      rw [domU_eq] at h
      injection h with h; subst h
      have hj := he _ _ _ _ _ _ _ hq hp.1.2
      have hfp := hp.1.1
      simp only [fpOk, Bool.and_eq_true] at hfp
      obtain ⟨hlt, hdis⟩ := hfp
      have hlt1 : ∀ b, b ∈ rs ++ ups.map Prod.fst → b < H.length := ltAll_ok hlt
      have hdis1 : ∀ b ∈ rs, b ∉ ups.map Prod.fst := apart_ok hdis
      have huni : ∀ H1 : Heap, (∀ b, b ∈ rs ++ ups.map Prod.fst → H1[b]? = H[b]?) → H1.length = H.length → un (rs ++ ups.map Prod.fst) H1 (setU ups H ++ L) = setU ups H1 ++ L := fun H1 h1 h2 => List.ext_getElem? fun b => by
        rw [un_get (by simp [setU_length, h2])]
        rcases Nat.lt_or_ge b H.length with hb | hb
        · rw [List.getElem?_append_left (by rw [setU_length]; exact hb), List.getElem?_append_left (by rw [setU_length, h2]; exact hb)]
          split
          · rename_i hc
            have hc : b ∈ rs ++ ups.map Prod.fst := hc.resolve_right (by omega)
            by_cases hw : b ∈ ups.map Prod.fst
            · exact ((setU_get ups H b).2 H1 h2 hw).symm
            · rw [(setU_get ups H b).1 hw, (setU_get ups H1 b).1 hw, h1 b hc]
          · rename_i hc
            simp only [List.mem_append, not_or] at hc
            rw [(setU_get ups H1 b).1 hc.1.2]
        · rw [if_pos (.inr (by omega)), List.getElem?_append_right (by rw [setU_length]; exact hb), List.getElem?_append_right (by rw [setU_length]; omega), setU_length, setU_length, h2]
      have hfoot : Foot H (setU ups H ++ L) (rs ++ ups.map Prod.fst) rs (ups.map Prod.fst) := ⟨fun b hb => List.mem_append.1 hb, fun b hb => by
        rw [List.getElem?_append_left (by rw [setU_length]; exact hlt1 b (by simp [hb])), (setU_get ups H b).1 (hdis1 b hb)], fun b hb => by simp [hb], fun b hb => by simp [hb]⟩
      have hrun : ∀ H1 : Heap, (∀ b, b ∈ rs ++ ups.map Prod.fst → H1[b]? = H[b]?) → H1.length = H.length → CallJ P g ds H1 d (un (rs ++ ups.map Prod.fst) H1 (setU ups H ++ L)) := fun H1 h1 h2 => by
        rw [huni H1 h1 h2]
        exact hj H1 (fun b hb => h1 b (List.mem_append.2 hb)) h2
      have hk := hp.2
      rw [← huni H (fun _ _ => rfl) rfl] at hk
      cases L with
      | nil =>
        simp only [isNilH, cond_true] at hk
        exact .sames d (rs ++ ups.map Prod.fst) rs (ups.map Prod.fst) (setU ups H ++ []) (by simp [setU_length]) hfoot hrun hk
      | cons x L =>
        simp only [isNilH, cond_false] at hk
        exact .parts d (rs ++ ups.map Prod.fst) rs (ups.map Prod.fst) (setU ups H ++ x :: L) (by simp [setU_length]) hfoot hrun hk
    · cases h
end Go.VD
end
section
namespace Go.Proofs.YtfleadelfklenaaGreatDoor
open Go.VD
set_option linter.unusedVariables false
set_option linter.unusedSimpArgs false
set_option maxRecDepth 100000
structure El where
  n : ByteArray
  k : ByteArray
  i : Int
structure Dg where
  nm : ByteArray
  bu : List ByteArray
  li : List Lin
  so : List Src
  ba : List Bay
  es : List El
end Go.Proofs.YtfleadelfklenaaGreatDoor
end
section
namespace Go.Proofs.YtfleadelfklenaaGreatDoor
open Go.VD
set_option linter.unusedVariables false
set_option linter.unusedSimpArgs false
set_option maxRecDepth 100000
mutual
theorem rnD_nl (g : Nat → Nat) : ∀ d, Nameless d → rnD g d = d
  | .v _, _ => rfl
  | .ro _ _, _ => rfl
  | .rp _ _, _ => rfl
  | .sl .., h => by simp [Nameless] at h
  | .ptr .., h => by simp [Nameless] at h
  | .agg xs, h => by simp only [Nameless] at h; simp only [rnD, rnL_nl g xs h]
  | .tup xs, h => by simp only [Nameless] at h; simp only [rnD, rnL_nl g xs h]
  | .ifc t d, h => by simp only [Nameless] at h; simp only [rnD, rnD_nl g d h]
  | .fn f k caps, h => by simp only [Nameless] at h; simp only [rnD, rnL_nl g caps h]
theorem rnL_nl (g : Nat → Nat) : ∀ ds, NamelessL ds → rnL g ds = ds
  | [], _ => rfl
  | d :: ds, h => by simp only [NamelessL] at h; simp only [rnL, rnD_nl g d h.1, rnL_nl g ds h.2]
end
mutual
theorem names_nl : ∀ d, Nameless d → namesD d = []
  | .v _, _ => rfl
  | .ro _ _, _ => rfl
  | .rp _ _, _ => rfl
  | .sl .., h => by simp [Nameless] at h
  | .ptr .., h => by simp [Nameless] at h
  | .agg xs, h => by simp only [Nameless] at h; simp only [namesD, namesL_nl xs h]
  | .tup xs, h => by simp only [Nameless] at h; simp only [namesD, namesL_nl xs h]
  | .ifc t d, h => by simp only [Nameless] at h; simp only [namesD, names_nl d h]
  | .fn f k caps, h => by simp only [Nameless] at h; simp only [namesD, namesL_nl caps h]
theorem namesL_nl : ∀ ds, NamelessL ds → namesD.namesA ds = []
  | [], _ => rfl
  | d :: ds, h => by simp only [NamelessL] at h; simp only [namesD.namesA, names_nl d h.1, namesL_nl ds h.2, List.append_nil]
end
structure DgR where
  g : Dg
  b1 : Nat
  b2 : Nat
  b3 : Nat
  b4 : Nat
  m : Nat
  f1 : Bool
  f2 : Bool
  f3 : Bool
  f4 : Bool
  p : Prop
end Go.Proofs.YtfleadelfklenaaGreatDoor
end
section
namespace Go.Proofs.YtfleadelfklenaaGreatDoor
open Go.VD
set_option linter.unusedVariables false
set_option linter.unusedSimpArgs false
set_option maxRecDepth 100000
end Go.Proofs.YtfleadelfklenaaGreatDoor
end
section
namespace Go.Proofs.YtfleadelfklenaaGreatDoor
open Go.VD
set_option linter.unusedVariables false
set_option linter.unusedSimpArgs false
set_option maxRecDepth 100000
end Go.Proofs.YtfleadelfklenaaGreatDoor
end
section
namespace Go.Proofs.YtfleadelfklenaaGreatDoor
open Go.VD
set_option linter.unusedVariables false
set_option linter.unusedSimpArgs false
set_option maxRecDepth 100000
end Go.Proofs.YtfleadelfklenaaGreatDoor
end
section
namespace Go.Proofs.YtfleadelfklenaaGreatDoor
open Go.VD
set_option linter.unusedVariables false
set_option linter.unusedSimpArgs false
set_option maxRecDepth 100000
end Go.Proofs.YtfleadelfklenaaGreatDoor
end
section
namespace Go.Proofs.YtfleadelfklenaaGreatDoor
open Go.VD
set_option linter.unusedVariables false
set_option linter.unusedSimpArgs false
set_option maxRecDepth 100000
end Go.Proofs.YtfleadelfklenaaGreatDoor
end
section
namespace Go.Proofs.YtfleadelfklenaaGreatDoor
open Go.VD
set_option linter.unusedVariables false
set_option linter.unusedSimpArgs false
set_option maxRecDepth 100000
end Go.Proofs.YtfleadelfklenaaGreatDoor
end
section
namespace Go.Proofs.YtfleadelfklenaaGreatDoor
open Go.VD
set_option linter.unusedVariables false
set_option linter.unusedSimpArgs false
set_option maxRecDepth 100000
end Go.Proofs.YtfleadelfklenaaGreatDoor
end
section
namespace Go.Proofs.YtfleadelfklenaaGreatDoor
open Go.VD
set_option linter.unusedVariables false
set_option linter.unusedSimpArgs false
set_option maxRecDepth 100000
end Go.Proofs.YtfleadelfklenaaGreatDoor
end
section
namespace Go.Proofs.YtfleadelfklenaaGreatDoor
open Go.VD
set_option linter.unusedVariables false
set_option linter.unusedSimpArgs false
set_option maxRecDepth 100000
end Go.Proofs.YtfleadelfklenaaGreatDoor
end
section
namespace Go.Proofs.YtfleadelfklenaaGreatDoor
open Go.VD
set_option linter.unusedVariables false
set_option linter.unusedSimpArgs false
set_option maxRecDepth 100000
theorem sE_comm (a b : ByteArray) : sE a b = sE b a := by
  unfold sE; rw [Bool.eq_iff_iff, beq_iff_eq, beq_iff_eq]; exact eq_comm
theorem hasN_any (l : List ByteArray) (s : ByteArray) : hasN l s = l.any fun x => sE x s := by
  unfold hasN
  rw [Bool.eq_iff_iff, List.any_eq_true, List.any_eq_true]
  constructor
  · rintro ⟨i, hi, h⟩
    exact ⟨_, getD_mem (List.mem_range.1 hi), h⟩
  · rintro ⟨x, hx, h⟩
    obtain ⟨i, hi, rfl⟩ := List.getElem_of_mem hx
    refine ⟨i, List.mem_range.2 hi, ?_⟩
    rw [List.getD_eq_getElem?_getD, List.getElem?_eq_getElem hi]; exact h
end Go.Proofs.YtfleadelfklenaaGreatDoor
end
