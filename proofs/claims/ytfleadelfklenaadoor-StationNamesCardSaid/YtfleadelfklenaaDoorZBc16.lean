import Derived.Test.YtfleadelfklenaaDoorZBc15
import Derived.Test.YtfleadelfklenaaDoorZBc11
section
namespace Go.Proofs.YtfleadelfklenaaDoor
open Go.VD
set_option linter.unusedVariables false
set_option linter.unusedSimpArgs false
set_option maxRecDepth 100000
def e1S (s : Stn) (i : Nat) : Int := nmdS (nm3 s i 0 0 0) (s.bu.getD i default)
def e2S (s : Stn) (i : Nat) : Int := orE (nmdS (nm3 s s.bu.length i 0 0) (s.li.getD i default).n) (bif ohmB (s.li.getD i default).z1 && ohmB (s.li.getD i default).z0 then 0 else 2)
def e3S (s : Stn) (i : Nat) : Int := orE (nmdS (nm3 s s.bu.length s.li.length i 0) (s.so.getD i default).n) (bif srcB (s.so.getD i default).emf (s.so.getD i default).z1 (s.so.getD i default).z0 then 0 else 2)
def e4S (s : Stn) (i : Nat) : Int := orE (nmdS (nm3 s s.bu.length s.li.length s.so.length i) (s.ba.getD i default).n) (bayErr s.bu.length s.li.length s.so.length s.ba i (s.ba.getD i default))
def cntS (s : Stn) : Bool := !(decide (s.bu.length < 1) || (decide (4 < s.bu.length) || (decide (6 < s.li.length) || (decide (4 < s.so.length) || decide (16 < s.ba.length)))))
def elsE (s : Stn) : Int := orE (firstE (e1S s) s.bu.length) (orE (firstE (e2S s) s.li.length) (orE (firstE (e3S s) s.so.length) (firstE (e4S s) s.ba.length)))
def chkS (s : Stn) : Int := bif nameS s.n then (bif cntS s then elsE s else 3) else 7
theorem cntS_few {s : Stn} (h : cntS s = true) : fewS s := by
  unfold cntS at h; simp at h; unfold fewS; omega
theorem stn_eta (s : Stn) : Stn.mk s.n s.bu s.li s.so s.ba = s := rfl
theorem imp_eta (u : Imp) : Imp.mk u.r u.x = u := rfl
theorem next_all {f : Nat → Int} {x : Nat} (hall : ∀ j, j < x → f j = 0) (h0 : f x = 0) : ∀ j, j < x + 1 → f j = 0 := fun j hj => by
  rcases Nat.lt_or_ge j x with h2 | h2
  · exact hall j h2
  · rw [show j = x by omega]; exact h0
def lp_rck1 (s : Stn) : LoopO := loopRule2 (α := Nat) (β := Unit) (γ := Int) [some 0] (fun i => cntS s = true ∧ i ≤ s.bu.length ∧ ∀ j, j < i → e1S s j = 0) (fun i => [(1, .ptr 0 0), (3, d_i (s.bu.length : Int)), (4, d_i (s.li.length : Int)), (5, d_i (s.so.length : Int)), (6, d_i (s.ba.length : Int)), (7, d_i (i : Int))]) (fun i => [some ⟨27, d_stnL s, true⟩]) (0) (fun _ => firstE (e1S s) s.bu.length = 0) (fun _ => (.exit 0, [(1, .ptr 0 0), (3, d_i (s.bu.length : Int)), (4, d_i (s.li.length : Int)), (5, d_i (s.so.length : Int)), (6, d_i (s.ba.length : Int))], [some ⟨27, d_stnL s, true⟩])) (fun e => e ≠ 0 ∧ firstE (e1S s) s.bu.length = e) (fun e => (.ret, [(2, d_i e)], []))
theorem rck1_rule (s : Stn) (hpre : okStn s) : LRuleP Tryd.prog Tryd.f7.ntmps (loopAt ((Tryd.f7.body).getD .skip) 7) (lp_rck1 s) := by
  refine lrule_of2 (α := Nat) (β := Unit) (γ := Int) (call := (addPure 18 ent_rnames (addPure 17 ent_rnamed noCalls))) (lp := fun _ => none) (N := 10) T_ok mixed (addPure_ok ent_rnames_ok (addPure_ok ent_rnamed_ok noCalls_ok)) (fun i => s.bu.length - i) (by kernel_rfl) (LpAllP.none _) ?_
  intro x hJ
  refine of_eq (B := letI z16 := (Exit.exit (0 : Nat)); letI z9 := (Prod.mk (1 : Nat) (D.ptr (0 : Nat) (0 : Nat))); letI z3 := (List.length (Stn.bu s)); letI z15 := ((z3 : Nat) : Int); letI z31 := (Prod.mk (3 : Nat) (d_i z15)); letI z23 := (List.length (Stn.li s)); letI z6 := ((z23 : Nat) : Int); letI z32 := (Prod.mk (4 : Nat) (d_i z6)); letI z24 := (List.length (Stn.so s)); letI z7 := ((z24 : Nat) : Int); letI z33 := (Prod.mk (5 : Nat) (d_i z7)); letI z25 := (List.length (Stn.ba s)); letI z8 := ((z25 : Nat) : Int); letI z34 := (Prod.mk (6 : Nat) (d_i z8)); letI z20 := (Option.some (Blk.mk (27 : TypeId) (d_stnL s) Bool.true)); letI z0 := (Prod.mk z16 (Prod.mk [z9, z31, z32, z33, z34] [z20])); letI z17 := (busesD (Stn.bu s)); letI z27 := (linesD (Stn.li s)); letI z28 := (srcsD (Stn.so s)); letI z29 := (baysD (Stn.ba s)); letI z1 := (Option.some (Blk.mk (27 : Nat) [(D.v (Value.string (Stn.n s))), (D.ro z3 z17), (D.ro z23 z27), (D.ro z24 z28), (D.ro z25 z29)] Bool.true)); letI z2 := (Stn.mk (Stn.n s) (unBus z17) (unLin z27) (unSrc z28) (unBay z29)); letI z11 := ((x : Nat) : Int); letI z30 := ((Int.toNat z11) * (1 : Nat)); letI z4 := (List.getD z17 z30 (Inhabited.default)); letI z5 := (nm3 z2 (Int.toNat z11) (0 : Nat) (0 : Nat) (0 : Nat)); letI z10 := (Prod.mk (3 : Nat) (D.v (Value.int IntKind.i64 z15))); letI z12 := (Prod.mk (4 : Nat) (D.v (Value.int IntKind.i64 z6))); letI z13 := (Prod.mk (5 : Nat) (D.v (Value.int IntKind.i64 z7))); letI z14 := (Prod.mk (6 : Nat) (D.v (Value.int IntKind.i64 z8))); letI z18 := (List (Option Nat)); letI z19 := ([] : List (Option Blk)); letI z21 := (firstE (e1S s) z3); letI z22 := ((0 : Int) ≤ (0 : Int)); letI z26 := (nmdS (unBus (busesD z5)) (cellStr z4)); letI z35 := ((0 : Int) ≤ z11); (True ∧ (True ∧ (True ∧ (pcond (Decidable.decide (z11 < z15)) (((5 : Nat) ≤ (5 : Nat)) ∧ (True ∧ (((StnOk z2 z3 z23 z24 z25 z17 z27 z28 z29) ∧ ((fewS z2) ∧ ((z35 ∧ (z11 ≤ z15)) ∧ ((z22 ∧ ((0 : Int) ≤ z6)) ∧ ((z22 ∧ ((0 : Int) ≤ z7)) ∧ (z22 ∧ ((0 : Int) ≤ z8))))))) ∧ (True ∧ (((1 : Nat) < (5 : Nat)) ∧ (True ∧ ((z35 ∧ (z11 < z15)) ∧ (((z30 < (List.length z17)) ∧ (IsStr z4)) ∧ (((BusOk (List.length z5) (busesD z5)) ∧ ((ByteArray.size (cellStr z4)) ≤ (9223372036854775807 : Nat))) ∧ (True ∧ ((Bool.true = Bool.true) ∧ (True ∧ (True ∧ (pcond (z26 != (0 : Int)) (True ∧ (True ∧ ((∃ (r : Unit), (∃ (kp : z18), ((z21 = (0 : Int)) ∧ ((Exit.ret = z16) ∧ (viewAll kp [z9, z10, z12, z13, z14] [z1] (Prod.fst (Prod.snd ((fun (x_1 : Unit) => z0) r))) (Prod.snd (Prod.snd ((fun (x_1 : Unit) => z0) r)))))))) ∨ (∃ (r : Int), (∃ (kp : z18), (((r ≠ (0 : Int)) ∧ (z21 = r)) ∧ ((Exit.ret = Exit.ret) ∧ (viewAll kp [(Prod.mk (2 : Nat) (D.v (Value.int IntKind.i64 z26)))] [z1] (Prod.fst (Prod.snd ((fun (e : Int) => (Prod.mk Exit.ret (Prod.mk [(Prod.mk (2 : Nat) (d_i e))] z19))) r))) (Prod.snd (Prod.snd ((fun (e : Int) => (Prod.mk Exit.ret (Prod.mk [(Prod.mk (2 : Nat) (d_i e))] z19))) r))))))))))) (True ∧ (True ∧ (True ∧ (∃ (y : Nat), (∃ (kp : z18), (((z3 - y) < (z3 - x)) ∧ ((((cntS s) = Bool.true) ∧ ((y ≤ z3) ∧ (∀ (j : Nat), ((j < y) → ((e1S s j) = (0 : Int)))))) ∧ (viewAll kp [z9, z10, z12, z13, z14, (Prod.mk (7 : Nat) (D.v (Value.int IntKind.i64 (IntKind.wrap IntKind.i64 (z11 + (1 : Int))))))] [z1] [z9, z31, z32, z33, z34, (Prod.mk (7 : Nat) (d_i ((y : Nat) : Int)))] [z20])))))))))))))))))))))) ((∃ (r : Unit), (∃ (kp : z18), ((z21 = (0 : Int)) ∧ ((z16 = z16) ∧ (viewAll kp [z9, z10, z12, z13, z14] [z1] (Prod.fst (Prod.snd ((fun (x_1 : Unit) => z0) r))) (Prod.snd (Prod.snd ((fun (x_1 : Unit) => z0) r)))))))) ∨ (∃ (r : Int), (∃ (kp : z18), (((r ≠ (0 : Int)) ∧ (z21 = r)) ∧ ((z16 = Exit.ret) ∧ (viewAll kp ([] : List (Prod Nat D)) [z1] (Prod.fst (Prod.snd ((fun (e : Int) => (Prod.mk Exit.ret (Prod.mk [(Prod.mk (2 : Nat) (d_i e))] z19))) r))) (Prod.snd (Prod.snd ((fun (e : Int) => (Prod.mk Exit.ret (Prod.mk [(Prod.mk (2 : Nat) (d_i e))] z19))) r)))))))))))))) (by kernel_rfl) ?_
  obtain ⟨hc, hx, hall⟩ := hJ
  obtain ⟨f1, f2, f3, f4⟩ := cntS_few hc
  simp only [true_and, and_true, and_self, IsInt_lit, IsBool_lit, IsStr_lit, IsSl_lit, cellN_lit, cellL_lit, Bool.not_eq_true', Bool.not_eq_false', Bool.not_true, Bool.not_false, Int.reduceLE, Int.reduceLT, Int.reduceNeg, Nat.le_refl, Int.le_refl, Nat.reduceLT, Nat.reduceLeDiff, Nat.reduceEqDiff, D.v.injEq, D.tup.injEq, D.agg.injEq, D.ro.injEq, List.cons.injEq, Value.int.injEq, Value.bool.injEq, pcond_true, pcond_false, NamelessL, Nameless, Nat.reduceMul, Nat.reduceAdd, Nat.zero_add, Int.toNat_natCast]
  refine pcond_intro (fun h => ?_) (fun h => .inl ⟨(), [some 0], ?_, ?_⟩)
  · simp only [decide_eq_true_eq] at h
    have hxa : x < s.bu.length := by omega
    have ga := busesD_get s.bu x hxa
    have ha := busesD_length s.bu
    have hsz : (s.bu.getD x default).size ≤ maxLen := hpre.2.1.2 _ (getD_mem hxa)
    have hl3 := nm3_len s x 0 0 0
    simp only [Nat.mul_one, ga, cellStr_lit, IsStr_lit, wrap_succ hxa (show s.bu.length ≤ 9223372036854775807 by omega), and_true, unBus_D, unLin_D, unSrc_D, unBay_D, StnOk_lit, BusOk_lit, stn_eta]
    have hv : nmdS (nm3 s x 0 0 0) (s.bu.getD x default) = e1S s x := rfl
    rw [hv]
    refine ⟨⟨⟨okStn_lens hpre, hpre⟩, ⟨f1, f2, f3, f4⟩, by omega, by omega, by omega, by omega⟩, ⟨by omega, by omega⟩, by omega, ⟨by simp only [maxLen]; omega, hsz⟩, pcond_intro (fun h1 => ?_) (fun h1 => ?_)⟩
    · rw [bne_iff_ne] at h1
      exact .inr ⟨e1S s x, [], ⟨h1, firstE_at hxa hall h1⟩, ⟨rfl, rfl, ⟨trivial, rfl⟩, trivial⟩⟩
    · rw [bne_eq_false_iff_eq] at h1
      exact ⟨x + 1, [some 0], by omega, ⟨hc, by omega, next_all hall h1⟩, ⟨rfl, ⟨⟨rfl, stnD_nl s⟩, rfl⟩, ⟨trivial, rfl⟩, ⟨trivial, rfl⟩, ⟨trivial, rfl⟩, ⟨trivial, rfl⟩, ⟨trivial, rfl⟩, ⟨trivial, rfl⟩, trivial⟩⟩
  · simp only [decide_eq_false_iff_not] at h
    exact firstE_zero fun j hj => hall j (by omega)
  · exact ⟨rfl, ⟨⟨rfl, stnD_nl s⟩, rfl⟩, ⟨trivial, rfl⟩, ⟨trivial, rfl⟩, ⟨trivial, rfl⟩, ⟨trivial, rfl⟩, ⟨trivial, rfl⟩, trivial⟩
def lp_rck2 (s : Stn) : LoopO := loopRule2 (α := Nat) (β := Unit) (γ := Int) [some 0] (fun i => cntS s = true ∧ i ≤ s.li.length ∧ ∀ j, j < i → e2S s j = 0) (fun i => [(1, .ptr 0 0), (3, d_i (s.bu.length : Int)), (4, d_i (s.li.length : Int)), (5, d_i (s.so.length : Int)), (6, d_i (s.ba.length : Int)), (9, d_i (i : Int))]) (fun i => [some ⟨27, d_stnL s, true⟩]) (0) (fun _ => firstE (e2S s) s.li.length = 0) (fun _ => (.exit 2, [(1, .ptr 0 0), (3, d_i (s.bu.length : Int)), (4, d_i (s.li.length : Int)), (5, d_i (s.so.length : Int)), (6, d_i (s.ba.length : Int))], [some ⟨27, d_stnL s, true⟩])) (fun e => e ≠ 0 ∧ firstE (e2S s) s.li.length = e) (fun e => (.ret, [(2, d_i e)], []))
theorem rck2_rule (s : Stn) (hpre : okStn s) : LRuleP Tryd.prog Tryd.f7.ntmps (loopAt ((Tryd.f7.body).getD .skip) 13) (lp_rck2 s) := by
  refine lrule_of2 (α := Nat) (β := Unit) (γ := Int) (call := (addPure 18 ent_rnames (addPure 17 ent_rnamed (addPure 19 ent_rohm noCalls)))) (lp := fun _ => none) (N := 10) T_ok mixed (addPure_ok ent_rnames_ok (addPure_ok ent_rnamed_ok (addPure_ok ent_rohm_ok noCalls_ok))) (fun i => s.li.length - i) (by kernel_rfl) (LpAllP.none _) ?_
  intro x hJ
  refine of_eq (B := letI z20 := (Exit.exit (2 : Nat)); letI z9 := (Prod.mk (1 : Nat) (D.ptr (0 : Nat) (0 : Nat))); letI z39 := (List.length (Stn.bu s)); letI z4 := ((z39 : Nat) : Int); letI z35 := (Prod.mk (3 : Nat) (d_i z4)); letI z3 := (List.length (Stn.li s)); letI z21 := ((z3 : Nat) : Int); letI z32 := (Prod.mk (4 : Nat) (d_i z21)); letI z40 := (List.length (Stn.so s)); letI z17 := ((z40 : Nat) : Int); letI z33 := (Prod.mk (5 : Nat) (d_i z17)); letI z41 := (List.length (Stn.ba s)); letI z18 := ((z41 : Nat) : Int); letI z34 := (Prod.mk (6 : Nat) (d_i z18)); letI z23 := (Option.some (Blk.mk (27 : TypeId) (d_stnL s) Bool.true)); letI z0 := (Prod.mk z20 (Prod.mk [z9, z35, z32, z33, z34] [z23])); letI z44 := (busesD (Stn.bu s)); letI z12 := (linesD (Stn.li s)); letI z45 := (srcsD (Stn.so s)); letI z46 := (baysD (Stn.ba s)); letI z1 := (Option.some (Blk.mk (27 : Nat) [(D.v (Value.string (Stn.n s))), (D.ro z39 z44), (D.ro z3 z12), (D.ro z40 z45), (D.ro z41 z46)] Bool.true)); letI z8 := (Stn.mk (Stn.n s) (unBus z44) (unLin z12) (unSrc z45) (unBay z46)); letI z14 := ((x : Nat) : Int); letI z22 := (nm3 z8 (Int.toNat z4) (Int.toNat z14) (0 : Nat) (0 : Nat)); letI z7 := ((Int.toNat z14) * (5 : Nat)); letI z24 := (List.getD z12 (z7 + (0 : Nat)) (Inhabited.default)); letI z2 := (nmdS (unBus (busesD z22)) (cellStr z24)); letI z5 := (Prod.mk (5 : Nat) (D.v (Value.int IntKind.i64 z17))); letI z6 := (Prod.mk (6 : Nat) (D.v (Value.int IntKind.i64 z18))); letI z10 := (Prod.mk (4 : Nat) (D.v (Value.int IntKind.i64 z21))); letI z11 := (Prod.mk (3 : Nat) (D.v (Value.int IntKind.i64 z4))); letI z13 := (([] : List Value) = ([] : List Value)); letI z15 := ([] : List (Option Blk)); letI z16 := (List (Option Nat)); letI z19 := (firstE (e2S s) z3); letI z25 := (Prod.mk (9 : Nat) (D.v (Value.int IntKind.i64 (IntKind.wrap IntKind.i64 (z14 + (1 : Int)))))); letI z52 := ((0 : Int) ≤ z14); letI z26 := (z52 ∧ (z14 < z21)); letI z48 := (z7 + (1 : Nat)); letI z27 := (List.getD z12 (z48 + (1 : Nat)) (Inhabited.default)); letI z49 := (z7 + (3 : Nat)); letI z28 := (List.getD z12 (z49 + (1 : Nat)) (Inhabited.default)); letI z29 := (z19 = (0 : Int)); letI z30 := (Prod.mk (2 : Nat) (D.v (Value.int IntKind.i64 (2 : Int)))); letI z31 := Exit.ret = Exit.ret; letI z36 := (List.getD z12 z48 (Inhabited.default)); letI z37 := (List.getD z12 z49 (Inhabited.default)); letI z38 := (Prod.mk (2 : Nat) (D.v (Value.int IntKind.i64 z2))); letI z42 := ((2 : Nat) < (5 : Nat)); letI z43 := Exit.ret = z20; letI z47 := List.length z12; letI z50 := ((0 : Int) ≤ (0 : Int)); letI z51 := ((cntS s) = Bool.true); (True ∧ (True ∧ (True ∧ (pcond (Decidable.decide (z14 < z21)) (((5 : Nat) ≤ (5 : Nat)) ∧ (True ∧ (True ∧ (((StnOk z8 z39 z3 z40 z41 z44 z12 z45 z46) ∧ ((fewS z8) ∧ ((((0 : Int) ≤ z4) ∧ (z4 ≤ z4)) ∧ ((z52 ∧ (z14 ≤ z21)) ∧ ((z50 ∧ ((0 : Int) ≤ z17)) ∧ (z50 ∧ ((0 : Int) ≤ z18))))))) ∧ (True ∧ (z42 ∧ (True ∧ (z26 ∧ (True ∧ ((((z7 + (0 : Nat)) < z47) ∧ (IsStr z24)) ∧ (((BusOk (List.length z22) (busesD z22)) ∧ ((ByteArray.size (cellStr z24)) ≤ (9223372036854775807 : Nat))) ∧ (True ∧ ((Bool.true = Bool.true) ∧ (True ∧ (True ∧ (True ∧ (pcond (z2 == (0 : Int)) (True ∧ (z42 ∧ (True ∧ (z26 ∧ (True ∧ ((((z48 + (2 : Nat)) ≤ z47) ∧ ((IsInt IntKind.i64 z36) ∧ ((IsInt IntKind.i64 z27) ∧ True))) ∧ (True ∧ (True ∧ (True ∧ (pcond (!(ohmB (Imp.mk (cellInt z36) (cellInt z27)))) (True ∧ (True ∧ (True ∧ (True ∧ (True ∧ (True ∧ (True ∧ ((∃ (r : Unit), (∃ (kp : z16), (z29 ∧ (z43 ∧ (viewAll kp [z9, z11, z10, z5, z6] [z1] (Prod.fst (Prod.snd ((fun (x_1 : Unit) => z0) r))) (Prod.snd (Prod.snd ((fun (x_1 : Unit) => z0) r)))))))) ∨ (∃ (r : Int), (∃ (kp : z16), (((r ≠ (0 : Int)) ∧ (z19 = r)) ∧ (z31 ∧ (viewAll kp [z30] [z1] (Prod.fst (Prod.snd ((fun (e : Int) => (Prod.mk Exit.ret (Prod.mk [(Prod.mk (2 : Nat) (d_i e))] z15))) r))) (Prod.snd (Prod.snd ((fun (e : Int) => (Prod.mk Exit.ret (Prod.mk [(Prod.mk (2 : Nat) (d_i e))] z15))) r)))))))))))))))) (True ∧ (z42 ∧ (True ∧ (z26 ∧ (True ∧ ((((z49 + (2 : Nat)) ≤ z47) ∧ ((IsInt IntKind.i64 z37) ∧ ((IsInt IntKind.i64 z28) ∧ True))) ∧ (True ∧ (True ∧ (True ∧ (True ∧ (pcond (!(ohmB (Imp.mk (cellInt z37) (cellInt z28)))) (True ∧ (True ∧ (True ∧ (True ∧ (True ∧ ((∃ (r : Unit), (∃ (kp : z16), (z29 ∧ (z43 ∧ (viewAll kp [z9, z11, z10, z5, z6] [z1] (Prod.fst (Prod.snd ((fun (x_1 : Unit) => z0) r))) (Prod.snd (Prod.snd ((fun (x_1 : Unit) => z0) r)))))))) ∨ (∃ (r : Int), (∃ (kp : z16), (((r ≠ (0 : Int)) ∧ (z19 = r)) ∧ (z31 ∧ (viewAll kp [z30] [z1] (Prod.fst (Prod.snd ((fun (e : Int) => (Prod.mk Exit.ret (Prod.mk [(Prod.mk (2 : Nat) (d_i e))] z15))) r))) (Prod.snd (Prod.snd ((fun (e : Int) => (Prod.mk Exit.ret (Prod.mk [(Prod.mk (2 : Nat) (d_i e))] z15))) r)))))))))))))) (True ∧ (True ∧ (pcond (z2 != (0 : Int)) (True ∧ (True ∧ ((∃ (r : Unit), (∃ (kp : z16), (z29 ∧ (z43 ∧ (viewAll kp [z9, z11, z10, z5, z6] [z1] (Prod.fst (Prod.snd ((fun (x_1 : Unit) => z0) r))) (Prod.snd (Prod.snd ((fun (x_1 : Unit) => z0) r)))))))) ∨ (∃ (r : Int), (∃ (kp : z16), (((r ≠ (0 : Int)) ∧ (z19 = r)) ∧ (z31 ∧ (viewAll kp [z38] [z1] (Prod.fst (Prod.snd ((fun (e : Int) => (Prod.mk Exit.ret (Prod.mk [(Prod.mk (2 : Nat) (d_i e))] z15))) r))) (Prod.snd (Prod.snd ((fun (e : Int) => (Prod.mk Exit.ret (Prod.mk [(Prod.mk (2 : Nat) (d_i e))] z15))) r))))))))))) (True ∧ (True ∧ (True ∧ (∃ (y : Nat), (∃ (kp : z16), (((z3 - y) < (z3 - x)) ∧ ((z51 ∧ ((y ≤ z3) ∧ (∀ (j : Nat), ((j < y) → ((e2S s j) = (0 : Int)))))) ∧ (viewAll kp [z9, z11, z10, z5, z6, z25] [z1] [z9, z35, z32, z33, z34, (Prod.mk (9 : Nat) (d_i ((y : Nat) : Int)))] [z23])))))))))))))))))))))))))))))))) (z13 ∧ (z13 ∧ (z13 ∧ (z13 ∧ (z13 ∧ (z13 ∧ (z13 ∧ (z13 ∧ (True ∧ (True ∧ (True ∧ (pcond (z2 != (0 : Int)) (True ∧ (True ∧ ((∃ (r : Unit), (∃ (kp : z16), (z29 ∧ (z43 ∧ (viewAll kp [z9, z11, z10, z5, z6] [z1] (Prod.fst (Prod.snd ((fun (x_1 : Unit) => z0) r))) (Prod.snd (Prod.snd ((fun (x_1 : Unit) => z0) r)))))))) ∨ (∃ (r : Int), (∃ (kp : z16), (((r ≠ (0 : Int)) ∧ (z19 = r)) ∧ (z31 ∧ (viewAll kp [z38] [z1] (Prod.fst (Prod.snd ((fun (e : Int) => (Prod.mk Exit.ret (Prod.mk [(Prod.mk (2 : Nat) (d_i e))] z15))) r))) (Prod.snd (Prod.snd ((fun (e : Int) => (Prod.mk Exit.ret (Prod.mk [(Prod.mk (2 : Nat) (d_i e))] z15))) r))))))))))) (True ∧ (True ∧ (True ∧ (∃ (y : Nat), (∃ (kp : z16), (((z3 - y) < (z3 - x)) ∧ ((z51 ∧ ((y ≤ z3) ∧ (∀ (j : Nat), ((j < y) → ((e2S s j) = (0 : Int)))))) ∧ (viewAll kp [z9, z11, z10, z5, z6, z25] [z1] [z9, z35, z32, z33, z34, (Prod.mk (9 : Nat) (d_i ((y : Nat) : Int)))] [z23]))))))))))))))))))))))))))))))))))))) ((∃ (r : Unit), (∃ (kp : z16), (z29 ∧ ((z20 = z20) ∧ (viewAll kp [z9, z11, z10, z5, z6] [z1] (Prod.fst (Prod.snd ((fun (x_1 : Unit) => z0) r))) (Prod.snd (Prod.snd ((fun (x_1 : Unit) => z0) r)))))))) ∨ (∃ (r : Int), (∃ (kp : z16), (((r ≠ (0 : Int)) ∧ (z19 = r)) ∧ ((z20 = Exit.ret) ∧ (viewAll kp ([] : List (Prod Nat D)) [z1] (Prod.fst (Prod.snd ((fun (e : Int) => (Prod.mk Exit.ret (Prod.mk [(Prod.mk (2 : Nat) (d_i e))] z15))) r))) (Prod.snd (Prod.snd ((fun (e : Int) => (Prod.mk Exit.ret (Prod.mk [(Prod.mk (2 : Nat) (d_i e))] z15))) r)))))))))))))) (by kernel_rfl) ?_
  obtain ⟨hc, hx, hall⟩ := hJ
  obtain ⟨f1, f2, f3, f4⟩ := cntS_few hc
  simp only [true_and, and_true, and_self, IsInt_lit, IsBool_lit, IsStr_lit, IsSl_lit, cellN_lit, cellL_lit, Bool.not_eq_true', Bool.not_eq_false', Bool.not_true, Bool.not_false, Int.reduceLE, Int.reduceLT, Int.reduceNeg, Nat.le_refl, Int.le_refl, Nat.reduceLT, Nat.reduceLeDiff, Nat.reduceEqDiff, D.v.injEq, D.tup.injEq, D.agg.injEq, D.ro.injEq, List.cons.injEq, Value.int.injEq, Value.bool.injEq, pcond_true, pcond_false, NamelessL, Nameless, Nat.reduceMul, Nat.reduceAdd, Nat.zero_add, Int.toNat_natCast]
  refine pcond_intro (fun h => ?_) (fun h => .inl ⟨(), [some 0], ?_, ?_⟩)
  · simp only [decide_eq_true_eq] at h
    have hxa : x < s.li.length := by omega
    have ga := linesD_get s.li x hxa
    have ha := linesD_length s.li
    have hsz : (s.li.getD x default).n.size ≤ maxLen := (hpre.2.2.1.2 _ (getD_mem hxa)).1
    have hl3 := nm3_len s s.bu.length x 0 0
    simp only [Nat.add_zero, ga, cellStr_lit, IsStr_lit, cellInt_lit, IsInt_lit, wrap_succ hxa (show s.li.length ≤ 9223372036854775807 by omega), true_and, and_true, unBus_D, unLin_D, unSrc_D, unBay_D, StnOk_lit, BusOk_lit, stn_eta, imp_eta, Int.toNat_natCast]
    have nx : e2S s x = 0 → _ := next_all hall
    have rt : ∀ e, e2S s x = e → e ≠ 0 → firstE (e2S s) s.li.length = e := fun e he h0 => by rw [firstE_at hxa hall (by rw [he]; exact h0), he]
    have ev : e2S s x = orE (nmdS (nm3 s s.bu.length x 0 0) (s.li.getD x default).n) (bif ohmB (s.li.getD x default).z1 && ohmB (s.li.getD x default).z0 then 0 else 2) := rfl
    generalize nmdS (nm3 s s.bu.length x 0 0) (s.li.getD x default).n = q at *
    refine ⟨⟨⟨okStn_lens hpre, hpre⟩, ⟨f1, f2, f3, f4⟩, by omega, by omega, by omega, by omega⟩, ⟨by omega, by omega⟩, by omega, ⟨by simp only [maxLen]; omega, hsz⟩, pcond_intro (fun h1 => ?_) (fun h1 => pcond_intro (fun h2 => ?_) (fun h2 => ?_))⟩
    · rw [beq_iff_eq] at h1
      subst h1
      rw [show orE 0 = id from rfl, id] at ev
      refine ⟨⟨by omega, by omega⟩, by omega, pcond_intro (fun h2 => .inr ⟨2, [], ⟨by decide, rt 2 (by rw [ev]; rw [Bool.not_eq_true'] at h2; rw [h2]; rfl) (by decide)⟩, ⟨rfl, rfl, ⟨trivial, rfl⟩, trivial⟩⟩) (fun h2 => ⟨⟨by omega, by omega⟩, by omega, pcond_intro (fun h3 => .inr ⟨2, [], ⟨by decide, rt 2 (by rw [ev]; rw [Bool.not_eq_true'] at h3; rw [h3, Bool.and_false]; rfl) (by decide)⟩, ⟨rfl, rfl, ⟨trivial, rfl⟩, trivial⟩⟩) (fun h3 => ?_)⟩)⟩
      rw [Bool.not_eq_false'] at h2 h3
      refine pcond_intro (fun h4 => absurd h4 (by decide)) (fun _ => ?_)
      exact ⟨x + 1, [some 0], by omega, ⟨hc, by omega, nx (by rw [ev, h2, h3]; rfl)⟩, ⟨rfl, ⟨⟨rfl, stnD_nl s⟩, rfl⟩, ⟨trivial, rfl⟩, ⟨trivial, rfl⟩, ⟨trivial, rfl⟩, ⟨trivial, rfl⟩, ⟨trivial, rfl⟩, ⟨trivial, rfl⟩, trivial⟩⟩
    · rw [bne_iff_ne] at h2
      exact .inr ⟨q, [], ⟨h2, rt q (by rw [ev]; exact orE_ne h2) h2⟩, ⟨rfl, rfl, ⟨trivial, rfl⟩, trivial⟩⟩
    · exfalso; rw [bne_eq_false_iff_eq] at h2; rw [beq_eq_false_iff_ne] at h1; exact h1 h2
  · simp only [decide_eq_false_iff_not] at h
    exact firstE_zero fun j hj => hall j (by omega)
  · exact ⟨rfl, ⟨⟨rfl, stnD_nl s⟩, rfl⟩, ⟨trivial, rfl⟩, ⟨trivial, rfl⟩, ⟨trivial, rfl⟩, ⟨trivial, rfl⟩, ⟨trivial, rfl⟩, trivial⟩
def lp_rck3 (s : Stn) : LoopO := loopRule2 (α := Nat) (β := Unit) (γ := Int) [some 0] (fun i => cntS s = true ∧ i ≤ s.so.length ∧ ∀ j, j < i → e3S s j = 0) (fun i => [(1, .ptr 0 0), (3, d_i (s.bu.length : Int)), (4, d_i (s.li.length : Int)), (5, d_i (s.so.length : Int)), (6, d_i (s.ba.length : Int)), (11, d_i (i : Int))]) (fun i => [some ⟨27, d_stnL s, true⟩]) (0) (fun _ => firstE (e3S s) s.so.length = 0) (fun _ => (.exit 4, [(1, .ptr 0 0), (3, d_i (s.bu.length : Int)), (4, d_i (s.li.length : Int)), (5, d_i (s.so.length : Int)), (6, d_i (s.ba.length : Int))], [some ⟨27, d_stnL s, true⟩])) (fun e => e ≠ 0 ∧ firstE (e3S s) s.so.length = e) (fun e => (.ret, [(2, d_i e)], []))
theorem rck3_rule (s : Stn) (hpre : okStn s) : LRuleP Tryd.prog Tryd.f7.ntmps (loopAt ((Tryd.f7.body).getD .skip) 21) (lp_rck3 s) := by
  refine lrule_of2 (α := Nat) (β := Unit) (γ := Int) (call := (addPure 18 ent_rnames (addPure 17 ent_rnamed (addPure 20 ent_rsrc noCalls)))) (lp := fun _ => none) (N := 10) T_ok mixed (addPure_ok ent_rnames_ok (addPure_ok ent_rnamed_ok (addPure_ok ent_rsrc_ok noCalls_ok))) (fun i => s.so.length - i) (by kernel_rfl) (LpAllP.none _) ?_
  intro x hJ
  refine of_eq (B := letI z21 := (Exit.exit (4 : Nat)); letI z9 := (Prod.mk (1 : Nat) (D.ptr (0 : Nat) (0 : Nat))); letI z35 := (List.length (Stn.bu s)); letI z6 := ((z35 : Nat) : Int); letI z31 := (Prod.mk (3 : Nat) (d_i z6)); letI z36 := (List.length (Stn.li s)); letI z7 := ((z36 : Nat) : Int); letI z32 := (Prod.mk (4 : Nat) (d_i z7)); letI z4 := (List.length (Stn.so s)); letI z23 := ((z4 : Nat) : Int); letI z28 := (Prod.mk (5 : Nat) (d_i z23)); letI z37 := (List.length (Stn.ba s)); letI z16 := ((z37 : Nat) : Int); letI z29 := (Prod.mk (6 : Nat) (d_i z16)); letI z22 := (Option.some (Blk.mk (27 : TypeId) (d_stnL s) Bool.true)); letI z0 := (Prod.mk z21 (Prod.mk [z9, z31, z32, z28, z29] [z22])); letI z42 := (busesD (Stn.bu s)); letI z43 := (linesD (Stn.li s)); letI z11 := (srcsD (Stn.so s)); letI z44 := (baysD (Stn.ba s)); letI z1 := (Option.some (Blk.mk (27 : Nat) [(D.v (Value.string (Stn.n s))), (D.ro z35 z42), (D.ro z36 z43), (D.ro z4 z11), (D.ro z37 z44)] Bool.true)); letI z14 := (Stn.mk (Stn.n s) (unBus z42) (unLin z43) (unSrc z11) (unBay z44)); letI z19 := ((x : Nat) : Int); letI z5 := (nm3 z14 (Int.toNat z6) (Int.toNat z7) (Int.toNat z19) (0 : Nat)); letI z3 := ((Int.toNat z19) * (6 : Nat)); letI z24 := (List.getD z11 (z3 + (0 : Nat)) (Inhabited.default)); letI z2 := (nmdS (unBus (busesD z5)) (cellStr z24)); letI z8 := (Prod.mk (6 : Nat) (D.v (Value.int IntKind.i64 z16))); letI z10 := (Prod.mk (5 : Nat) (D.v (Value.int IntKind.i64 z23))); letI z12 := (Prod.mk (3 : Nat) (D.v (Value.int IntKind.i64 z6))); letI z13 := (Prod.mk (4 : Nat) (D.v (Value.int IntKind.i64 z7))); letI z45 := ((z3 + (1 : Nat)) + (1 : Nat)); letI z15 := (z45 + (1 : Nat)); letI z17 := ([] : List (Option Blk)); letI z18 := (List (Option Nat)); letI z20 := (firstE (e3S s) z4); letI z25 := (Prod.mk (11 : Nat) (D.v (Value.int IntKind.i64 (IntKind.wrap IntKind.i64 (z19 + (1 : Int)))))); letI z26 := (List.getD z11 ((z15 + (1 : Nat)) + (1 : Nat)) (Inhabited.default)); letI z27 := (List.getD z11 z45 (Inhabited.default)); letI z30 := (List.getD z11 (z15 + (1 : Nat)) (Inhabited.default)); letI z33 := (List.getD z11 (z3 + (1 : Nat)) (Inhabited.default)); letI z34 := (Prod.mk (2 : Nat) (D.v (Value.int IntKind.i64 z2))); letI z38 := (z20 = (0 : Int)); letI z39 := (List.getD z11 z15 (Inhabited.default)); letI z40 := Exit.ret = Exit.ret; letI z49 := ((0 : Int) ≤ z19); letI z41 := (z49 ∧ (z19 < z23)); letI z46 := Exit.ret = z21; letI z47 := ((3 : Nat) < (5 : Nat)); letI z48 := ((cntS s) = Bool.true); (True ∧ (True ∧ (True ∧ (pcond (Decidable.decide (z19 < z23)) (((5 : Nat) ≤ (5 : Nat)) ∧ (True ∧ (True ∧ (True ∧ (((StnOk z14 z35 z36 z4 z37 z42 z43 z11 z44) ∧ ((fewS z14) ∧ ((((0 : Int) ≤ z6) ∧ (z6 ≤ z6)) ∧ ((((0 : Int) ≤ z7) ∧ (z7 ≤ z7)) ∧ ((z49 ∧ (z19 ≤ z23)) ∧ (((0 : Int) ≤ (0 : Int)) ∧ ((0 : Int) ≤ z16))))))) ∧ (True ∧ (z47 ∧ (True ∧ (z41 ∧ (True ∧ ((((z3 + (0 : Nat)) < (List.length z11)) ∧ (IsStr z24)) ∧ (((BusOk (List.length z5) (busesD z5)) ∧ ((ByteArray.size (cellStr z24)) ≤ (9223372036854775807 : Nat))) ∧ (True ∧ ((Bool.true = Bool.true) ∧ (True ∧ (True ∧ (True ∧ (pcond (z2 == (0 : Int)) (True ∧ (z47 ∧ (True ∧ (z41 ∧ ((((z3 + (6 : Nat)) ≤ (List.length z11)) ∧ ((IsStr (List.getD z11 z3 (Inhabited.default))) ∧ ((IsInt IntKind.i64 z33) ∧ ((IsInt IntKind.i64 z27) ∧ ((IsInt IntKind.i64 z39) ∧ ((IsInt IntKind.i64 z30) ∧ ((IsInt IntKind.i64 z26) ∧ True))))))) ∧ (True ∧ (True ∧ (True ∧ (pcond (!(srcB (cellInt z33) (Imp.mk (cellInt z27) (cellInt z39)) (Imp.mk (cellInt z30) (cellInt z26)))) (True ∧ (True ∧ (True ∧ (True ∧ (True ∧ ((∃ (r : Unit), (∃ (kp : z18), (z38 ∧ (z46 ∧ (viewAll kp [z9, z12, z13, z10, z8] [z1] (Prod.fst (Prod.snd ((fun (x_1 : Unit) => z0) r))) (Prod.snd (Prod.snd ((fun (x_1 : Unit) => z0) r)))))))) ∨ (∃ (r : Int), (∃ (kp : z18), (((r ≠ (0 : Int)) ∧ (z20 = r)) ∧ (z40 ∧ (viewAll kp [(Prod.mk (2 : Nat) (D.v (Value.int IntKind.i64 (2 : Int))))] [z1] (Prod.fst (Prod.snd ((fun (e : Int) => (Prod.mk Exit.ret (Prod.mk [(Prod.mk (2 : Nat) (d_i e))] z17))) r))) (Prod.snd (Prod.snd ((fun (e : Int) => (Prod.mk Exit.ret (Prod.mk [(Prod.mk (2 : Nat) (d_i e))] z17))) r)))))))))))))) (True ∧ (True ∧ (pcond (z2 != (0 : Int)) (True ∧ (True ∧ ((∃ (r : Unit), (∃ (kp : z18), (z38 ∧ (z46 ∧ (viewAll kp [z9, z12, z13, z10, z8] [z1] (Prod.fst (Prod.snd ((fun (x_1 : Unit) => z0) r))) (Prod.snd (Prod.snd ((fun (x_1 : Unit) => z0) r)))))))) ∨ (∃ (r : Int), (∃ (kp : z18), (((r ≠ (0 : Int)) ∧ (z20 = r)) ∧ (z40 ∧ (viewAll kp [z34] [z1] (Prod.fst (Prod.snd ((fun (e : Int) => (Prod.mk Exit.ret (Prod.mk [(Prod.mk (2 : Nat) (d_i e))] z17))) r))) (Prod.snd (Prod.snd ((fun (e : Int) => (Prod.mk Exit.ret (Prod.mk [(Prod.mk (2 : Nat) (d_i e))] z17))) r))))))))))) (True ∧ (True ∧ (True ∧ (∃ (y : Nat), (∃ (kp : z18), (((z4 - y) < (z4 - x)) ∧ ((z48 ∧ ((y ≤ z4) ∧ (∀ (j : Nat), ((j < y) → ((e3S s j) = (0 : Int)))))) ∧ (viewAll kp [z9, z12, z13, z10, z8, z25] [z1] [z9, z31, z32, z28, z29, (Prod.mk (11 : Nat) (d_i ((y : Nat) : Int)))] [z22])))))))))))))))))))) (True ∧ (True ∧ (True ∧ (pcond (z2 != (0 : Int)) (True ∧ (True ∧ ((∃ (r : Unit), (∃ (kp : z18), (z38 ∧ (z46 ∧ (viewAll kp [z9, z12, z13, z10, z8] [z1] (Prod.fst (Prod.snd ((fun (x_1 : Unit) => z0) r))) (Prod.snd (Prod.snd ((fun (x_1 : Unit) => z0) r)))))))) ∨ (∃ (r : Int), (∃ (kp : z18), (((r ≠ (0 : Int)) ∧ (z20 = r)) ∧ (z40 ∧ (viewAll kp [z34] [z1] (Prod.fst (Prod.snd ((fun (e : Int) => (Prod.mk Exit.ret (Prod.mk [(Prod.mk (2 : Nat) (d_i e))] z17))) r))) (Prod.snd (Prod.snd ((fun (e : Int) => (Prod.mk Exit.ret (Prod.mk [(Prod.mk (2 : Nat) (d_i e))] z17))) r))))))))))) (True ∧ (True ∧ (True ∧ (∃ (y : Nat), (∃ (kp : z18), (((z4 - y) < (z4 - x)) ∧ ((z48 ∧ ((y ≤ z4) ∧ (∀ (j : Nat), ((j < y) → ((e3S s j) = (0 : Int)))))) ∧ (viewAll kp [z9, z12, z13, z10, z8, z25] [z1] [z9, z31, z32, z28, z29, (Prod.mk (11 : Nat) (d_i ((y : Nat) : Int)))] [z22])))))))))))))))))))))))))))))) ((∃ (r : Unit), (∃ (kp : z18), (z38 ∧ ((z21 = z21) ∧ (viewAll kp [z9, z12, z13, z10, z8] [z1] (Prod.fst (Prod.snd ((fun (x_1 : Unit) => z0) r))) (Prod.snd (Prod.snd ((fun (x_1 : Unit) => z0) r)))))))) ∨ (∃ (r : Int), (∃ (kp : z18), (((r ≠ (0 : Int)) ∧ (z20 = r)) ∧ ((z21 = Exit.ret) ∧ (viewAll kp ([] : List (Prod Nat D)) [z1] (Prod.fst (Prod.snd ((fun (e : Int) => (Prod.mk Exit.ret (Prod.mk [(Prod.mk (2 : Nat) (d_i e))] z17))) r))) (Prod.snd (Prod.snd ((fun (e : Int) => (Prod.mk Exit.ret (Prod.mk [(Prod.mk (2 : Nat) (d_i e))] z17))) r)))))))))))))) (by kernel_rfl) ?_
  obtain ⟨hc, hx, hall⟩ := hJ
  obtain ⟨f1, f2, f3, f4⟩ := cntS_few hc
  simp only [true_and, and_true, and_self, IsInt_lit, IsBool_lit, IsStr_lit, IsSl_lit, cellN_lit, cellL_lit, Bool.not_eq_true', Bool.not_eq_false', Bool.not_true, Bool.not_false, Int.reduceLE, Int.reduceLT, Int.reduceNeg, Nat.le_refl, Int.le_refl, Nat.reduceLT, Nat.reduceLeDiff, Nat.reduceEqDiff, D.v.injEq, D.tup.injEq, D.agg.injEq, D.ro.injEq, List.cons.injEq, Value.int.injEq, Value.bool.injEq, pcond_true, pcond_false, NamelessL, Nameless, Nat.reduceMul, Nat.reduceAdd, Nat.zero_add, Int.toNat_natCast]
  refine pcond_intro (fun h => ?_) (fun h => .inl ⟨(), [some 0], ?_, ?_⟩)
  · simp only [decide_eq_true_eq] at h
    have hxa : x < s.so.length := by omega
    have ga := srcsD_get s.so x hxa
    have ha := srcsD_length s.so
    have hsz : (s.so.getD x default).n.size ≤ maxLen := (hpre.2.2.2.1.2 _ (getD_mem hxa)).1
    have hl3 := nm3_len s s.bu.length s.li.length x 0
    simp only [Nat.add_zero, ga, cellStr_lit, IsStr_lit, cellInt_lit, IsInt_lit, wrap_succ hxa (show s.so.length ≤ 9223372036854775807 by omega), true_and, and_true, unBus_D, unLin_D, unSrc_D, unBay_D, StnOk_lit, BusOk_lit, stn_eta, imp_eta, Int.toNat_natCast]
    have nx : e3S s x = 0 → _ := next_all hall
    have rt : ∀ e, e3S s x = e → e ≠ 0 → firstE (e3S s) s.so.length = e := fun e he h0 => by rw [firstE_at hxa hall (by rw [he]; exact h0), he]
    have ev : e3S s x = orE (nmdS (nm3 s s.bu.length s.li.length x 0) (s.so.getD x default).n) (bif srcB (s.so.getD x default).emf (s.so.getD x default).z1 (s.so.getD x default).z0 then 0 else 2) := rfl
    generalize nmdS (nm3 s s.bu.length s.li.length x 0) (s.so.getD x default).n = q at *
    refine ⟨⟨⟨okStn_lens hpre, hpre⟩, ⟨f1, f2, f3, f4⟩, by omega, by omega, by omega, by omega⟩, ⟨by omega, by omega⟩, by omega, ⟨by simp only [maxLen]; omega, hsz⟩, pcond_intro (fun h1 => ?_) (fun h1 => pcond_intro (fun h2 => ?_) (fun h2 => ?_))⟩
    · rw [beq_iff_eq] at h1
      subst h1
      rw [show orE 0 = id from rfl, id] at ev
      refine ⟨⟨by omega, by omega⟩, by omega, pcond_intro (fun h2 => .inr ⟨2, [], ⟨by decide, rt 2 (by rw [ev]; rw [Bool.not_eq_true'] at h2; rw [h2]; rfl) (by decide)⟩, ⟨rfl, rfl, ⟨trivial, rfl⟩, trivial⟩⟩) (fun h2 => ?_)⟩
      rw [Bool.not_eq_false'] at h2
      refine pcond_intro (fun h4 => absurd h4 (by decide)) (fun _ => ?_)
      exact ⟨x + 1, [some 0], by omega, ⟨hc, by omega, nx (by rw [ev, h2]; rfl)⟩, ⟨rfl, ⟨⟨rfl, stnD_nl s⟩, rfl⟩, ⟨trivial, rfl⟩, ⟨trivial, rfl⟩, ⟨trivial, rfl⟩, ⟨trivial, rfl⟩, ⟨trivial, rfl⟩, ⟨trivial, rfl⟩, trivial⟩⟩
    · rw [bne_iff_ne] at h2
      exact .inr ⟨q, [], ⟨h2, rt q (by rw [ev]; exact orE_ne h2) h2⟩, ⟨rfl, rfl, ⟨trivial, rfl⟩, trivial⟩⟩
    · exfalso; rw [bne_eq_false_iff_eq] at h2; rw [beq_eq_false_iff_ne] at h1; exact h1 h2
  · simp only [decide_eq_false_iff_not] at h
    exact firstE_zero fun j hj => hall j (by omega)
  · exact ⟨rfl, ⟨⟨rfl, stnD_nl s⟩, rfl⟩, ⟨trivial, rfl⟩, ⟨trivial, rfl⟩, ⟨trivial, rfl⟩, ⟨trivial, rfl⟩, ⟨trivial, rfl⟩, trivial⟩
def lp_rck4 (s : Stn) : LoopO := loopRule2 (α := Nat) (β := Unit) (γ := Int) [some 0] (fun i => cntS s = true ∧ i ≤ s.ba.length ∧ ∀ j, j < i → e4S s j = 0) (fun i => [(1, .ptr 0 0), (3, d_i (s.bu.length : Int)), (4, d_i (s.li.length : Int)), (5, d_i (s.so.length : Int)), (6, d_i (s.ba.length : Int)), (13, d_i (i : Int))]) (fun i => [some ⟨27, d_stnL s, true⟩]) (0) (fun _ => firstE (e4S s) s.ba.length = 0) (fun _ => (.exit 6, [], [])) (fun e => e ≠ 0 ∧ firstE (e4S s) s.ba.length = e) (fun e => (.ret, [(2, d_i e)], []))
theorem rck4_rule (s : Stn) (hpre : okStn s) : LRuleP Tryd.prog Tryd.f7.ntmps (loopAt ((Tryd.f7.body).getD .skip) 29) (lp_rck4 s) := by
  refine lrule_of2 (α := Nat) (β := Unit) (γ := Int) (call := (addPure 18 ent_rnames (addPure 17 ent_rnamed (addPure 21 ent_rbay noCalls)))) (lp := fun _ => none) (N := 10) T_ok mixed (addPure_ok ent_rnames_ok (addPure_ok ent_rnamed_ok (addPure_ok ent_rbay_ok noCalls_ok))) (fun i => s.ba.length - i) (by kernel_rfl) (LpAllP.none _) ?_
  intro x hJ
  refine of_eq (B := letI z22 := (List.length (Stn.bu s)); letI z32 := (busesD (Stn.bu s)); letI z23 := (List.length (Stn.li s)); letI z33 := (linesD (Stn.li s)); letI z24 := (List.length (Stn.so s)); letI z34 := (srcsD (Stn.so s)); letI z2 := (List.length (Stn.ba s)); letI z17 := (baysD (Stn.ba s)); letI z0 := (Option.some (Blk.mk (27 : Nat) [(D.v (Value.string (Stn.n s))), (D.ro z22 z32), (D.ro z23 z33), (D.ro z24 z34), (D.ro z2 z17)] Bool.true)); letI z5 := (Stn.mk (Stn.n s) (unBus z32) (unLin z33) (unSrc z34) (unBay z17)); letI z6 := ((z22 : Nat) : Int); letI z7 := ((z23 : Nat) : Int); letI z8 := ((z24 : Nat) : Int); letI z10 := ((x : Nat) : Int); letI z30 := Int.toNat z10; letI z1 := (nm3 z5 (Int.toNat z6) (Int.toNat z7) (Int.toNat z8) z30); letI z18 := (Exit.exit (6 : Nat)); letI z19 := ([] : List (Prod Nat D)); letI z13 := ([] : List (Option Blk)); letI z3 := (Prod.mk z18 (Prod.mk z19 z13)); letI z35 := ((z30 * (12 : Nat)) + (0 : Nat)); letI z4 := (List.getD z17 z35 (Inhabited.default)); letI z9 := (bayErr z22 z23 z24 (unBay z17) z30 (List.getD (unBay z17) z30 (Inhabited.default))); letI z11 := (StnOk z5 z22 z23 z24 z2 z32 z33 z34 z17); letI z12 := (Prod.mk (1 : Nat) (D.ptr (0 : Nat) (0 : Nat))); letI z14 := (List (Option Nat)); letI z15 := ((z2 : Nat) : Int); letI z16 := (Prod.mk (13 : Nat) (D.v (Value.int IntKind.i64 (IntKind.wrap IntKind.i64 (z10 + (1 : Int)))))); letI z20 := (firstE (e4S s) z2); letI z21 := (nmdS (unBus (busesD z1)) (cellStr z4)); letI z25 := (Option.some (Blk.mk (27 : TypeId) (d_stnL s) Bool.true)); letI z26 := (Prod.mk (6 : Nat) (D.v (Value.int IntKind.i64 z15))); letI z27 := (Prod.mk (3 : Nat) (D.v (Value.int IntKind.i64 z6))); letI z28 := (Prod.mk (4 : Nat) (D.v (Value.int IntKind.i64 z7))); letI z29 := (Prod.mk (5 : Nat) (D.v (Value.int IntKind.i64 z8))); letI z44 := ((0 : Int) ≤ z10); letI z31 := (z44 ∧ (z10 < z15)); letI z36 := (z20 = (0 : Int)); letI z37 := (Prod.mk (6 : Nat) (d_i z15)); letI z38 := (Prod.mk (3 : Nat) (d_i z6)); letI z39 := (Prod.mk (4 : Nat) (d_i z7)); letI z40 := (Prod.mk (5 : Nat) (d_i z8)); letI z41 := ((5 : Nat) ≤ (5 : Nat)); letI z42 := ((cntS s) = Bool.true); letI z43 := Exit.ret = Exit.ret; (True ∧ (True ∧ (True ∧ (pcond (Decidable.decide (z10 < z15)) (z41 ∧ (True ∧ (True ∧ (True ∧ (True ∧ ((z11 ∧ ((fewS z5) ∧ ((((0 : Int) ≤ z6) ∧ (z6 ≤ z6)) ∧ ((((0 : Int) ≤ z7) ∧ (z7 ≤ z7)) ∧ ((((0 : Int) ≤ z8) ∧ (z8 ≤ z8)) ∧ (z44 ∧ (z10 ≤ z15))))))) ∧ (True ∧ (((4 : Nat) < (5 : Nat)) ∧ (True ∧ (z31 ∧ (True ∧ (((z35 < (List.length z17)) ∧ (IsStr z4)) ∧ (((BusOk (List.length z1) (busesD z1)) ∧ ((ByteArray.size (cellStr z4)) ≤ (9223372036854775807 : Nat))) ∧ (True ∧ ((Bool.true = Bool.true) ∧ (True ∧ (True ∧ (pcond (z21 == (0 : Int)) (z41 ∧ (True ∧ ((z11 ∧ z31) ∧ (True ∧ (True ∧ (True ∧ (pcond (z9 != (0 : Int)) (True ∧ (True ∧ ((∃ (r : Unit), (∃ (kp : z14), (z36 ∧ ((Exit.ret = z18) ∧ (viewAll kp z19 [z0] (Prod.fst (Prod.snd ((fun (x_1 : Unit) => z3) r))) (Prod.snd (Prod.snd ((fun (x_1 : Unit) => z3) r)))))))) ∨ (∃ (r : Int), (∃ (kp : z14), (((r ≠ (0 : Int)) ∧ (z20 = r)) ∧ (z43 ∧ (viewAll kp [(Prod.mk (2 : Nat) (D.v (Value.int IntKind.i64 z9)))] [z0] (Prod.fst (Prod.snd ((fun (e : Int) => (Prod.mk Exit.ret (Prod.mk [(Prod.mk (2 : Nat) (d_i e))] z13))) r))) (Prod.snd (Prod.snd ((fun (e : Int) => (Prod.mk Exit.ret (Prod.mk [(Prod.mk (2 : Nat) (d_i e))] z13))) r))))))))))) (True ∧ (True ∧ (True ∧ (∃ (y : Nat), (∃ (kp : z14), (((z2 - y) < (z2 - x)) ∧ ((z42 ∧ ((y ≤ z2) ∧ (∀ (j : Nat), ((j < y) → ((e4S s j) = (0 : Int)))))) ∧ (viewAll kp [z12, z27, z28, z29, z26, z16] [z0] [z12, z38, z39, z40, z37, (Prod.mk (13 : Nat) (d_i ((y : Nat) : Int)))] [z25]))))))))))))))) (True ∧ (True ∧ (pcond (z21 != (0 : Int)) (True ∧ (True ∧ ((∃ (r : Unit), (∃ (kp : z14), (z36 ∧ ((Exit.ret = z18) ∧ (viewAll kp z19 [z0] (Prod.fst (Prod.snd ((fun (x_1 : Unit) => z3) r))) (Prod.snd (Prod.snd ((fun (x_1 : Unit) => z3) r)))))))) ∨ (∃ (r : Int), (∃ (kp : z14), (((r ≠ (0 : Int)) ∧ (z20 = r)) ∧ (z43 ∧ (viewAll kp [(Prod.mk (2 : Nat) (D.v (Value.int IntKind.i64 z21)))] [z0] (Prod.fst (Prod.snd ((fun (e : Int) => (Prod.mk Exit.ret (Prod.mk [(Prod.mk (2 : Nat) (d_i e))] z13))) r))) (Prod.snd (Prod.snd ((fun (e : Int) => (Prod.mk Exit.ret (Prod.mk [(Prod.mk (2 : Nat) (d_i e))] z13))) r))))))))))) (True ∧ (True ∧ (True ∧ (∃ (y : Nat), (∃ (kp : z14), (((z2 - y) < (z2 - x)) ∧ ((z42 ∧ ((y ≤ z2) ∧ (∀ (j : Nat), ((j < y) → ((e4S s j) = (0 : Int)))))) ∧ (viewAll kp [z12, z27, z28, z29, z26, z16] [z0] [z12, z38, z39, z40, z37, (Prod.mk (13 : Nat) (d_i ((y : Nat) : Int)))] [z25]))))))))))))))))))))))))))))) ((∃ (r : Unit), (∃ (kp : z14), (z36 ∧ ((z18 = z18) ∧ (viewAll kp z19 [z0] (Prod.fst (Prod.snd ((fun (x_1 : Unit) => z3) r))) (Prod.snd (Prod.snd ((fun (x_1 : Unit) => z3) r)))))))) ∨ (∃ (r : Int), (∃ (kp : z14), (((r ≠ (0 : Int)) ∧ (z20 = r)) ∧ ((z18 = Exit.ret) ∧ (viewAll kp z19 [z0] (Prod.fst (Prod.snd ((fun (e : Int) => (Prod.mk Exit.ret (Prod.mk [(Prod.mk (2 : Nat) (d_i e))] z13))) r))) (Prod.snd (Prod.snd ((fun (e : Int) => (Prod.mk Exit.ret (Prod.mk [(Prod.mk (2 : Nat) (d_i e))] z13))) r)))))))))))))) (by kernel_rfl) ?_
  obtain ⟨hc, hx, hall⟩ := hJ
  obtain ⟨f1, f2, f3, f4⟩ := cntS_few hc
  simp only [true_and, and_true, and_self, IsInt_lit, IsBool_lit, IsStr_lit, IsSl_lit, cellN_lit, cellL_lit, Bool.not_eq_true', Bool.not_eq_false', Bool.not_true, Bool.not_false, Int.reduceLE, Int.reduceLT, Int.reduceNeg, Nat.le_refl, Int.le_refl, Nat.reduceLT, Nat.reduceLeDiff, Nat.reduceEqDiff, D.v.injEq, D.tup.injEq, D.agg.injEq, D.ro.injEq, List.cons.injEq, Value.int.injEq, Value.bool.injEq, pcond_true, pcond_false, NamelessL, Nameless, Nat.reduceMul, Nat.reduceAdd, Nat.zero_add, Int.toNat_natCast]
  refine pcond_intro (fun h => ?_) (fun h => .inl ⟨(), [], ?_, ?_⟩)
  · simp only [decide_eq_true_eq] at h
    have hxa : x < s.ba.length := by omega
    have ga := baysD_get s.ba x hxa
    have ha := baysD_length s.ba
    have hsz : (s.ba.getD x default).n.size ≤ maxLen := (hpre.2.2.2.2.2 _ (getD_mem hxa)).1
    have hl3 := nm3_len s s.bu.length s.li.length s.so.length x
    simp only [Nat.add_zero, ga, cellStr_lit, IsStr_lit, cellInt_lit, IsInt_lit, wrap_succ hxa (show s.ba.length ≤ 9223372036854775807 by omega), true_and, and_true, unBus_D, unLin_D, unSrc_D, unBay_D, StnOk_lit, BusOk_lit, stn_eta, imp_eta, Int.toNat_natCast]
    have nx : e4S s x = 0 → _ := next_all hall
    have rt : ∀ e, e4S s x = e → e ≠ 0 → firstE (e4S s) s.ba.length = e := fun e he h0 => by rw [firstE_at hxa hall (by rw [he]; exact h0), he]
    have ev : e4S s x = orE (nmdS (nm3 s s.bu.length s.li.length s.so.length x) (s.ba.getD x default).n) (bayErr s.bu.length s.li.length s.so.length s.ba x (s.ba.getD x default)) := rfl
    generalize nmdS (nm3 s s.bu.length s.li.length s.so.length x) (s.ba.getD x default).n = q at *
    refine ⟨⟨⟨okStn_lens hpre, hpre⟩, ⟨f1, f2, f3, f4⟩, by omega, by omega, by omega, by omega⟩, ⟨by omega, by omega⟩, by omega, ⟨by simp only [maxLen]; omega, hsz⟩, pcond_intro (fun h1 => ?_) (fun h1 => pcond_intro (fun h2 => ?_) (fun h2 => ?_))⟩
    · rw [beq_iff_eq] at h1
      subst h1
      rw [show orE 0 = id from rfl, id] at ev
      rw [← ev]
      refine ⟨⟨⟨okStn_lens hpre, hpre⟩, by omega, by omega⟩, pcond_intro (fun h2 => ?_) (fun h2 => ?_)⟩
      · rw [bne_iff_ne] at h2
        exact .inr ⟨e4S s x, [], ⟨h2, rt _ rfl h2⟩, ⟨rfl, rfl, ⟨trivial, rfl⟩, trivial⟩⟩
      · rw [bne_eq_false_iff_eq] at h2
        exact ⟨x + 1, [some 0], by omega, ⟨hc, by omega, nx h2⟩, ⟨rfl, ⟨⟨rfl, stnD_nl s⟩, rfl⟩, ⟨trivial, rfl⟩, ⟨trivial, rfl⟩, ⟨trivial, rfl⟩, ⟨trivial, rfl⟩, ⟨trivial, rfl⟩, ⟨trivial, rfl⟩, trivial⟩⟩
    · rw [bne_iff_ne] at h2
      exact .inr ⟨q, [], ⟨h2, rt q (by rw [ev]; exact orE_ne h2) h2⟩, ⟨rfl, rfl, ⟨trivial, rfl⟩, trivial⟩⟩
    · exfalso; rw [bne_eq_false_iff_eq] at h2; rw [beq_eq_false_iff_ne] at h1; exact h1 h2
  · simp only [decide_eq_false_iff_not] at h
    exact firstE_zero fun j hj => hall j (by omega)
  · exact ⟨rfl, rfl, trivial⟩
theorem rcheck_pure (s : Stn) (hpre : okStn s) : PureJ Tryd.prog 7 [.agg (d_stnL s)] (.v (.int .i64 (chkS s))) := by
  refine pureJ_of_vcp (call := (addPure 16 ent_rname noCalls)) (lp := fun reg__ => bif Nat.beq reg__ 7 then some (lp_rck1 s) else bif Nat.beq reg__ 13 then some (lp_rck2 s) else bif Nat.beq reg__ 21 then some (lp_rck3 s) else bif Nat.beq reg__ 29 then some (lp_rck4 s) else none) (N := 10) T_ok mixed (addPure_ok ent_rname_ok noCalls_ok) Tryd.func7 rfl (by decide) (by kernel_rfl) (by kernel_rfl) (of_eq (B := letI z0 := ((Tryd.f7.body).getD .skip); LRuleP Tryd.prog Tryd.f7.ntmps (loopAt z0 7) (lp_rck1 s) ∧ LRuleP Tryd.prog Tryd.f7.ntmps (loopAt z0 13) (lp_rck2 s) ∧ LRuleP Tryd.prog Tryd.f7.ntmps (loopAt z0 21) (lp_rck3 s) ∧ LRuleP Tryd.prog Tryd.f7.ntmps (loopAt z0 29) (lp_rck4 s) ∧ True) (by kernel_rfl) ⟨rck1_rule s hpre, ⟨rck2_rule s hpre, ⟨rck3_rule s hpre, ⟨rck4_rule s hpre, trivial⟩⟩⟩⟩) (by first | exact ⟨stnD_nl s, trivial⟩ | trivial) (by first | exact ⟨stnD_nl s, trivial⟩ | trivial) ?_
  refine of_eq (B := letI z24 := Bool.true = Bool.true; letI z11 := (D.v (Value.string (Stn.n s))); letI z4 := (List.length (Stn.bu s)); letI z17 := (D.ro z4 (busesD (Stn.bu s))); letI z5 := (List.length (Stn.li s)); letI z18 := (D.ro z5 (linesD (Stn.li s))); letI z6 := (List.length (Stn.so s)); letI z19 := (D.ro z6 (srcsD (Stn.so s))); letI z7 := (List.length (Stn.ba s)); letI z20 := (D.ro z7 (baysD (Stn.ba s))); letI z2 := (Option.some (Blk.mk (27 : Nat) [z11, z17, z18, z19, z20] Bool.true)); letI z23 := ([] : List (Option Blk)); letI z21 := (D.ptr (0 : Nat) (0 : Nat)); letI z12 := ((z4 : Nat) : Int); letI z16 := (D.v (Value.int IntKind.i64 z12)); letI z13 := (D.v (Value.int IntKind.i64 ((z5 : Nat) : Int))); letI z14 := (D.v (Value.int IntKind.i64 ((z6 : Nat) : Int))); letI z15 := (D.v (Value.int IntKind.i64 ((z7 : Nat) : Int))); letI z8 := (D.v (Value.int IntKind.i64 (0 : Int))); letI z0 := (z24 ∧ ((((z2 = z2) ∧ (NamelessL [z11, z17, z18, z19, z20])) ∧ (z23 = z23)) ∧ ((True ∧ (z21 = z21)) ∧ ((True ∧ (z16 = z16)) ∧ ((True ∧ (z13 = z13)) ∧ ((True ∧ (z14 = z14)) ∧ ((True ∧ (z15 = z15)) ∧ ((True ∧ (z8 = z8)) ∧ True)))))))); letI z3 := (D.v (Value.int IntKind.i64 (chkS s))); letI z1 := (True ∧ (True ∧ (True ∧ ((D.v (Value.int IntKind.i64 (3 : Int))) = z3)))); letI z9 := (True ∧ (True ∧ (True ∧ z1))); letI z10 := ((cntS s) = Bool.true); letI z22 := (True ∧ (True ∧ z9)); letI z25 := (firstE (e1S s) z4); letI z26 := (firstE (e2S s) z5); letI z27 := (firstE (e3S s) z6); letI z28 := (firstE (e4S s) z7); (True ∧ (True ∧ (True ∧ ((((0 : Nat) < (5 : Nat)) ∧ (IsStr z11)) ∧ (((ByteArray.size (Stn.n s)) ≤ (9223372036854775807 : Nat)) ∧ (True ∧ (pcond (!(nameS (Stn.n s))) (True ∧ (True ∧ (True ∧ ((D.v (Value.int IntKind.i64 (7 : Int))) = z3)))) (True ∧ (((1 : Nat) < (5 : Nat)) ∧ (True ∧ (True ∧ (((2 : Nat) < (5 : Nat)) ∧ (True ∧ (True ∧ (((3 : Nat) < (5 : Nat)) ∧ (True ∧ (True ∧ (((4 : Nat) < (5 : Nat)) ∧ (True ∧ (True ∧ (True ∧ (True ∧ (True ∧ (z24 ∧ (True ∧ (True ∧ (True ∧ (pcond (Decidable.decide (z12 < (1 : Int))) (True ∧ (True ∧ z22)) (True ∧ (True ∧ (True ∧ (True ∧ (pcond (Decidable.decide ((4 : Int) < z12)) z22 (True ∧ (True ∧ (True ∧ (True ∧ (pcond (Decidable.decide ((6 : Int) < ((z5 : Nat) : Int))) z9 (True ∧ (True ∧ (True ∧ (True ∧ (pcond (Decidable.decide ((4 : Int) < ((z6 : Nat) : Int))) (True ∧ z1) (True ∧ (True ∧ (True ∧ (pcond (Decidable.decide ((16 : Int) < ((z7 : Nat) : Int))) z1 (True ∧ ((z10 ∧ (((0 : Nat) ≤ z4) ∧ (∀ (j : Nat), ((j < (0 : Nat)) → ((e1S s j) = (0 : Int)))))) ∧ (z0 ∧ ((Unit → ((z25 = (0 : Int)) → (True ∧ ((z10 ∧ (((0 : Nat) ≤ z5) ∧ (∀ (j : Nat), ((j < (0 : Nat)) → ((e2S s j) = (0 : Int)))))) ∧ (z0 ∧ ((Unit → ((z26 = (0 : Int)) → (True ∧ ((z10 ∧ (((0 : Nat) ≤ z6) ∧ (∀ (j : Nat), ((j < (0 : Nat)) → ((e3S s j) = (0 : Int)))))) ∧ (z0 ∧ ((Unit → ((z27 = (0 : Int)) → (True ∧ ((z10 ∧ (((0 : Nat) ≤ z7) ∧ (∀ (j : Nat), ((j < (0 : Nat)) → ((e4S s j) = (0 : Int)))))) ∧ (z0 ∧ ((Unit → ((z28 = (0 : Int)) → (True ∧ (True ∧ (True ∧ (z8 = z3)))))) ∧ (∀ (r : Int), (((r ≠ (0 : Int)) ∧ (z28 = r)) → (True ∧ (True ∧ ((D.v (Value.int IntKind.i64 r)) = z3))))))))))) ∧ (∀ (r : Int), (((r ≠ (0 : Int)) ∧ (z27 = r)) → (True ∧ (True ∧ ((D.v (Value.int IntKind.i64 r)) = z3))))))))))) ∧ (∀ (r : Int), (((r ≠ (0 : Int)) ∧ (z26 = r)) → (True ∧ (True ∧ ((D.v (Value.int IntKind.i64 r)) = z3))))))))))) ∧ (∀ (r : Int), (((r ≠ (0 : Int)) ∧ (z25 = r)) → (True ∧ (True ∧ ((D.v (Value.int IntKind.i64 r)) = z3))))))))))))))))))))))))))))))))))))))))))))))))))))))))) (by kernel_rfl) ?_
  simp only [true_and, and_true, and_self, IsInt_lit, IsBool_lit, IsStr_lit, IsSl_lit, cellN_lit, cellL_lit, Bool.not_eq_true', Bool.not_eq_false', Bool.not_true, Bool.not_false, Int.reduceLE, Int.reduceLT, Int.reduceNeg, Nat.le_refl, Int.le_refl, Nat.reduceLT, Nat.reduceLeDiff, Nat.reduceEqDiff, D.v.injEq, D.tup.injEq, D.agg.injEq, D.ro.injEq, List.cons.injEq, Value.int.injEq, Value.bool.injEq, pcond_true, pcond_false, NamelessL, Nameless, Nat.reduceMul, Nat.reduceAdd, Nat.zero_add, Int.toNat_natCast]
  have nA : NamelessL (busesD s.bu) ∧ NamelessL (linesD s.li) ∧ NamelessL (srcsD s.so) ∧ NamelessL (baysD s.ba) := ⟨busesD_nl s.bu, linesD_nl s.li, srcsD_nl s.so, baysD_nl s.ba⟩
  have e1 : ∀ (k n : Nat), decide ((k : Int) < (n : Int)) = decide (k < n) := fun k n => by rw [Bool.eq_iff_iff]; simp
  have g0 := e1 s.bu.length 1
  have g1 := e1 4 s.bu.length
  have g2 := e1 6 s.li.length
  have g3 := e1 4 s.so.length
  have g4 := e1 16 s.ba.length
  simp only [Int.ofNat_eq_natCast, Int.cast_ofNat_Int] at g0 g1 g2 g3 g4
  rw [show decide ((s.bu.length : Int) < 1) = decide (s.bu.length < 1) from g0, g1, g2, g3, g4]
  refine ⟨hpre.1, pcond_intro (fun h => by rw [Bool.not_eq_true'] at h; unfold chkS; rw [h]; rfl) (fun h => ?_)⟩
  rw [Bool.not_eq_false'] at h
  have ev : chkS s = bif cntS s then elsE s else 3 := by unfold chkS; rw [h]; rfl
  rw [ev]
  refine pcond_intro (fun h1 => by unfold cntS; rw [h1]; rfl) (fun h1 => pcond_intro (fun h2 => by unfold cntS; rw [h1, h2]; rfl) (fun h2 => pcond_intro (fun h3 => by unfold cntS; rw [h1, h2, h3]; rfl) (fun h3 => pcond_intro (fun h4 => by unfold cntS; rw [h1, h2, h3, h4]; rfl) (fun h4 => pcond_intro (fun h5 => by unfold cntS; rw [h1, h2, h3, h4, h5]; rfl) (fun h5 => ?_)))))
  have hc : cntS s = true := by unfold cntS; rw [h1, h2, h3, h4, h5]; rfl
  rw [hc, cond_true]
  unfold elsE
  have z0 : ∀ f : Nat → Int, ∀ j, j < 0 → f j = 0 := fun f j h => absurd h (Nat.not_lt_zero _)
  refine ⟨⟨rfl, Nat.zero_le _, z0 _⟩, nA, fun _ r1 => ⟨⟨rfl, Nat.zero_le _, z0 _⟩, nA, fun _ r2 => ⟨⟨rfl, Nat.zero_le _, z0 _⟩, nA, fun _ r3 => ⟨⟨rfl, Nat.zero_le _, z0 _⟩, nA, fun _ r4 => ?_, fun e he => ?_⟩, fun e he => ?_⟩, fun e he => ?_⟩, fun e he => ?_⟩
  · rw [r1, r2, r3, r4]; rfl
  · rw [r1, r2, r3, he.2]; rfl
  · rw [r1, r2, he.2, orE_ne he.1]; rfl
  · rw [r1, he.2, orE_ne he.1]; rfl
  · rw [he.2, orE_ne he.1]
def ent_rcheck : Ent := ent1 fun s => .int .i64 (chkS s)
theorem ent_rcheck_ok : EntOk Tryd.prog 7 ent_rcheck := ent1_of _ _ fun s h => rcheck_pure s h
end Go.Proofs.YtfleadelfklenaaDoor
end
section
namespace Go.Proofs.YtfleadelfklenaaDoor
open Go.VD
set_option linter.unusedVariables false
set_option linter.unusedSimpArgs false
set_option maxRecDepth 100000
theorem pbtw_pure (n lo hi : Int) : PureJ Tryd.prog 58 [.v (.int .i64 n), .v (.int .i64 lo), .v (.int .i64 hi)] (.v (.bool (btw n lo hi))) := by
  refine pureJ_of_vcx (call := noCalls) (lp := fun _ => none) (N := 10) T_ok mixed noCalls_ok Tryd.func58 rfl (by decide) (by kernel_rfl) (by kernel_rfl) (LpAll.none _) (by first | trivial | (simp only [NamelessL, Nameless, and_self, and_true, true_and]; done) | (simp [NamelessL, Nameless, u32s_nameless, namelessL_ints]; done)) (by first | trivial | (simp only [NamelessL, Nameless, and_self, and_true, true_and]; done) | (simp [NamelessL, Nameless, u32s_nameless, namelessL_ints]; done)) ?_
  refine of_eq (B := letI z0 := (D.v (Value.bool (btw n lo hi))); (True ∧ (True ∧ (True ∧ (True ∧ (True ∧ (pcond (Decidable.decide (lo ≤ n)) (True ∧ (True ∧ (True ∧ (True ∧ (True ∧ (True ∧ (True ∧ ((D.v (Value.bool (Decidable.decide (n ≤ hi)))) = z0)))))))) (True ∧ (True ∧ (True ∧ (True ∧ ((D.v (Value.bool Bool.false)) = z0)))))))))))) (by kernel_rfl) ?_
  simp only [true_and, and_true, and_self, IsInt_lit, IsBool_lit, IsStr_lit, IsSl_lit, cellN_lit, cellL_lit, Bool.not_eq_true', Bool.not_eq_false', Bool.not_true, Bool.not_false, Int.reduceLE, Int.reduceLT, Int.reduceNeg, Nat.le_refl, Int.le_refl, Nat.reduceLT, Nat.reduceLeDiff, Nat.reduceEqDiff, D.v.injEq, D.tup.injEq, D.agg.injEq, D.ro.injEq, List.cons.injEq, Value.int.injEq, Value.bool.injEq, pcond_true, pcond_false, NamelessL, Nameless, Nat.reduceMul, Nat.reduceAdd, Nat.zero_add, Int.toNat_natCast]
  unfold btw
  exact pcond_intro (fun h => by rw [h]; rfl) (fun h => by rw [h]; rfl)
def ent_pbtw : Ent := fun ds => match ds with
  | [.v (.int .i64 n), .v (.int .i64 lo), .v (.int .i64 hi)] => some (.v (.bool (btw n lo hi)), True)
  | _ => none
theorem ent_pbtw_ok : EntOk Tryd.prog 58 ent_pbtw := by
  intro ds d c h hc; unfold ent_pbtw at h; split at h
  · obtain ⟨rfl, rfl⟩ := pair_inj h; exact pbtw_pure _ _ _
  · cases h
theorem pohm_pure (r x : Int) : PureJ Tryd.prog 57 [.agg [.v (.int .i64 r), .v (.int .i64 x)]] (.v (.bool (ohmB ⟨r, x⟩))) := by
  refine pureJ_of_vcx (call := (addPure 58 ent_pbtw noCalls)) (lp := fun _ => none) (N := 10) T_ok mixed (addPure_ok ent_pbtw_ok noCalls_ok) Tryd.func57 rfl (by decide) (by kernel_rfl) (by kernel_rfl) (LpAll.none _) (by first | trivial | (simp only [NamelessL, Nameless, and_self, and_true, true_and]; done) | (simp [NamelessL, Nameless, u32s_nameless, namelessL_ints]; done)) (by first | trivial | (simp only [NamelessL, Nameless, and_self, and_true, true_and]; done) | (simp [NamelessL, Nameless, u32s_nameless, namelessL_ints]; done)) ?_
  refine of_eq (B := letI z0 := (D.v (Value.bool (ohmB (Imp.mk r x)))); (True ∧ (True ∧ (True ∧ ((((0 : Nat) < (2 : Nat)) ∧ (IsInt IntKind.i64 (D.v (Value.int IntKind.i64 r)))) ∧ (True ∧ (True ∧ (pcond (btw r (0 : Int) (1000 : Int)) (True ∧ ((((1 : Nat) < (2 : Nat)) ∧ (IsInt IntKind.i64 (D.v (Value.int IntKind.i64 x)))) ∧ (True ∧ (True ∧ (True ∧ (True ∧ (True ∧ ((D.v (Value.bool (btw x (1 : Int) (1000 : Int)))) = z0)))))))) (True ∧ (True ∧ (True ∧ (True ∧ ((D.v (Value.bool Bool.false)) = z0))))))))))))) (by kernel_rfl) ?_
  simp only [true_and, and_true, and_self, IsInt_lit, IsBool_lit, IsStr_lit, IsSl_lit, cellN_lit, cellL_lit, Bool.not_eq_true', Bool.not_eq_false', Bool.not_true, Bool.not_false, Int.reduceLE, Int.reduceLT, Int.reduceNeg, Nat.le_refl, Int.le_refl, Nat.reduceLT, Nat.reduceLeDiff, Nat.reduceEqDiff, D.v.injEq, D.tup.injEq, D.agg.injEq, D.ro.injEq, List.cons.injEq, Value.int.injEq, Value.bool.injEq, pcond_true, pcond_false, NamelessL, Nameless, Nat.reduceMul, Nat.reduceAdd, Nat.zero_add, Int.toNat_natCast]
  unfold ohmB
  exact pcond_intro (fun h => by rw [h]; rfl) (fun h => by rw [h]; rfl)
def ent_pohm : Ent := fun ds => match ds with
  | [.agg [.v (.int .i64 r), .v (.int .i64 x)]] => some (.v (.bool (ohmB ⟨r, x⟩)), True)
  | _ => none
theorem ent_pohm_ok : EntOk Tryd.prog 57 ent_pohm := by
  intro ds d c h hc; unfold ent_pohm at h; split at h
  · obtain ⟨rfl, rfl⟩ := pair_inj h; exact pohm_pure _ _
  · cases h
theorem prng_pure (b : Bay) : PureJ Tryd.prog 60 [.agg (d_bayL b)] (.v (.int .i64 (bif rngB b.kind b.end_ b.z b.ct b.vt b.sat b.tr then 0 else 2))) := by
  refine pureJ_of_vcx (call := (addPure 58 ent_pbtw (addPure 57 ent_pohm noCalls))) (lp := fun _ => none) (N := 10) T_ok mixed (addPure_ok ent_pbtw_ok (addPure_ok ent_pohm_ok noCalls_ok)) Tryd.func60 rfl (by decide) (by kernel_rfl) (by kernel_rfl) (LpAll.none _) (by first | exact ⟨bayD_nl b, trivial⟩ | trivial) (by first | exact ⟨bayD_nl b, trivial⟩ | trivial) ?_
  refine of_eq (B := letI z4 := (((1 : Nat) < (12 : Nat)) ∧ (IsInt IntKind.i64 (D.v (Value.int IntKind.i64 (Bay.kind b))))); letI z15 := ((Bay.kind b) == (3 : Int)); letI z12 := (btw (Bay.tr b) (1 : Int) (6 : Int)); letI z16 := ((6 : Nat) ≤ (12 : Nat)); letI z13 := (Imp.r (Bay.z b)); letI z14 := (Imp.x (Bay.z b)); letI z8 := (((9 : Nat) < (12 : Nat)) ∧ (IsInt IntKind.i64 (D.v (Value.int IntKind.i64 (Bay.vt b))))); letI z3 := (D.v (Value.int IntKind.i64 (cond (rngB (Bay.kind b) (Bay.end_ b) (Bay.z b) (Bay.ct b) (Bay.vt b) (Bay.sat b) (Bay.tr b)) (0 : Int) (2 : Int)))); letI z5 := (True ∧ (True ∧ (True ∧ ((D.v (Value.int IntKind.i64 (2 : Int))) = z3)))); letI z6 := (D.v (Value.int IntKind.i64 (0 : Int))); letI z11 := (True ∧ (True ∧ (True ∧ (z6 = z3)))); letI z1 := (True ∧ (True ∧ (True ∧ (True ∧ z5)))); letI z9 := (True ∧ (True ∧ z1)); letI z19 := ((0 : Nat) < (2 : Nat)); letI z21 := IsInt IntKind.i64 z6; letI z20 := ((1 : Nat) < (2 : Nat)); letI z18 := (True ∧ (True ∧ z9)); letI z2 := (True ∧ (True ∧ (True ∧ (z4 ∧ (True ∧ (pcond z15 z18 z18)))))); letI z17 := (True ∧ (True ∧ z2)); letI z0 := (True ∧ ((((8 : Nat) < (12 : Nat)) ∧ (IsInt IntKind.i64 (D.v (Value.int IntKind.i64 (Bay.ct b))))) ∧ (True ∧ (True ∧ (True ∧ (pcond (btw (Bay.ct b) (1 : Int) (100 : Int)) (True ∧ ((((10 : Nat) < (12 : Nat)) ∧ (IsInt IntKind.i64 (D.v (Value.int IntKind.i64 (Bay.sat b))))) ∧ (True ∧ (True ∧ (True ∧ (pcond (btw (Bay.sat b) (0 : Int) (16383 : Int)) (True ∧ ((((11 : Nat) < (12 : Nat)) ∧ (IsInt IntKind.i64 (D.v (Value.int IntKind.i64 (Bay.tr b))))) ∧ (True ∧ (True ∧ (True ∧ (True ∧ (z4 ∧ (True ∧ (pcond z15 (True ∧ (True ∧ (pcond z12 (True ∧ (z16 ∧ (True ∧ (True ∧ (True ∧ (pcond (ohmB (Imp.mk z13 z14)) (True ∧ (z8 ∧ (True ∧ (True ∧ (True ∧ (True ∧ (True ∧ (pcond (!((Bay.vt b) == (0 : Int))) z5 z11)))))))) z1)))))) z9))) (True ∧ (True ∧ (pcond z12 (True ∧ (z16 ∧ (True ∧ ((((z19 ∧ (IsInt IntKind.i64 (D.v (Value.int IntKind.i64 z13)))) ∧ (z19 ∧ z21)) ∧ (True ∧ (((z20 ∧ (IsInt IntKind.i64 (D.v (Value.int IntKind.i64 z14)))) ∧ (z20 ∧ z21)) ∧ (True ∧ True)))) ∧ (True ∧ (True ∧ (pcond ((z13 == (0 : Int)) && ((z14 == (0 : Int)) && Bool.true)) (True ∧ (z8 ∧ (True ∧ (True ∧ (True ∧ (True ∧ (True ∧ (pcond (!(btw (Bay.vt b) (1 : Int) (10000 : Int))) z5 z11)))))))) z1))))))) z9)))))))))))) z2)))))) z17)))))); letI z7 := (((3 : Nat) < (12 : Nat)) ∧ (IsInt IntKind.i64 (D.v (Value.int IntKind.i64 (Bay.end_ b))))); letI z10 := (True ∧ (True ∧ z17)); (True ∧ (True ∧ (True ∧ (True ∧ (z4 ∧ (True ∧ (pcond ((Bay.kind b) == (1 : Int)) (True ∧ (True ∧ (z7 ∧ (True ∧ (True ∧ (True ∧ (True ∧ (pcond (btw (Bay.end_ b) (0 : Int) (1 : Int)) z0 z10)))))))) (True ∧ (z7 ∧ (True ∧ (True ∧ (True ∧ (True ∧ (pcond (btw (Bay.end_ b) (0 : Int) (0 : Int)) z0 z10))))))))))))))) (by kernel_rfl) ?_
  simp only [true_and, and_true, and_self, IsInt_lit, IsBool_lit, IsStr_lit, IsSl_lit, cellN_lit, cellL_lit, Bool.not_eq_true', Bool.not_eq_false', Bool.not_true, Bool.not_false, Int.reduceLE, Int.reduceLT, Int.reduceNeg, Nat.le_refl, Int.le_refl, Nat.reduceLT, Nat.reduceLeDiff, Nat.reduceEqDiff, D.v.injEq, D.tup.injEq, D.agg.injEq, D.ro.injEq, List.cons.injEq, Value.int.injEq, Value.bool.injEq, pcond_true, pcond_false, NamelessL, Nameless, Nat.reduceMul, Nat.reduceAdd, Nat.zero_add, Int.toNat_natCast]
  have eo : ohmB ⟨b.z.r, b.z.x⟩ = ohmB b.z := rfl
  have e0 : btw b.end_ 0 0 = (b.end_ == 0) := by unfold btw; rw [Bool.eq_iff_iff]; simp; omega
  have ew1 : IntKind.i64.wrap (2 - 1) = 1 := by decide
  have ew2 : IntKind.i64.wrap (1 - 1) = 0 := by decide
  simp only [bne, Bool.and_true, eo, ew1, ew2, e0]
  unfold rngB
  generalize (b.kind == 1) = k1
  generalize (b.kind == 3) = k3
  generalize btw b.end_ 0 1 = a1
  generalize (b.end_ == 0) = a2
  generalize ohmB b.z = a3
  generalize (b.z.r == 0 && b.z.x == 0) = a4
  generalize btw b.ct 1 100 = a5
  generalize (b.vt == 0) = a6
  generalize btw b.vt 1 10000 = a7
  generalize btw b.sat 0 16383 = a8
  generalize btw b.tr 1 6 = a9
  cases k1 <;> cases k3 <;> simp only [pcond_true, pcond_false, Bool.not_true, Bool.not_false, cond_true, cond_false]
  all_goals (cases a1 <;> cases a2 <;> simp only [pcond_true, pcond_false, Bool.not_true, Bool.not_false, Bool.false_and, Bool.true_and, Bool.and_false, cond_false, cond_true])
  all_goals (cases a5 <;> cases a8 <;> cases a9 <;> simp only [pcond_true, pcond_false, Bool.not_true, Bool.not_false, Bool.false_and, Bool.true_and, Bool.and_false, Bool.and_true, cond_false, cond_true])
  all_goals (cases a3 <;> cases a4 <;> simp only [pcond_true, pcond_false, Bool.not_true, Bool.not_false, Bool.false_and, Bool.true_and, Bool.and_false, Bool.and_true, cond_false, cond_true])
  all_goals (cases a6 <;> cases a7 <;> simp only [pcond_true, pcond_false, Bool.not_true, Bool.not_false, Bool.false_and, Bool.true_and, Bool.and_false, Bool.and_true, cond_false, cond_true])
def ent_prng : Ent := fun ds => match ds with
  | [.agg [.v (.string bn), .v (.int .i64 k), .v (.int .i64 o), .v (.int .i64 e), .v (.int .i64 r), .v (.int .i64 x), .ro m ls, .v (.bool cl), .v (.int .i64 ct), .v (.int .i64 vt), .v (.int .i64 sa), .v (.int .i64 tr)]] =>
    some (.v (.int .i64 (bif rngB k e ⟨r, x⟩ ct vt sa tr then 0 else 2)), LnkOk m ls)
  | _ => none
theorem ent_prng_ok : EntOk Tryd.prog 60 ent_prng := by
  intro ds d c hd hc; unfold ent_prng at hd; split at hd
  · rename_i bn k o e r x m ls cl ct vt sa tr
    obtain ⟨rfl, rfl⟩ := pair_inj hd
    obtain ⟨⟨e1, e2⟩, -⟩ := hc
    generalize unLnk ls = u5 at *
    subst e1; subst e2
    exact prng_pure ⟨bn, k, o, e, ⟨r, x⟩, u5, cl, ct, vt, sa, tr⟩
  · cases hd
def intsD (l : List Int) : List D := l.map d_i
theorem intsD_length (l : List Int) : (intsD l).length = l.length := by simp [intsD]
theorem intsD_get (l : List Int) (i : Nat) (h : i < l.length) : (intsD l).getD i default = d_i (l.getD i 0) := by simp [intsD, h]
theorem intsD_nl : ∀ l : List Int, NamelessL (intsD l)
  | [] => by simp [intsD, NamelessL]
  | x :: r => by simp only [intsD, List.map_cons, NamelessL, Nameless, true_and]; exact intsD_nl r
def orL (l : List Int) : Int := firstE (fun i => l.getD i 0) l.length
def lp_orLoop (l : List Int) : LoopO := loopRule2 (α := Nat) (β := Unit) (γ := Int) [] (fun i => i ≤ l.length ∧ ∀ j, j < i → l.getD j 0 = 0) (fun i => [(3, d_i 0), (6, .ro l.length (intsD l)), (7, d_i (l.length : Int)), (8, d_i (i : Int))]) (fun i => []) (0) (fun _ => orL l = 0) (fun _ => (.exit 0, [(3, d_i 0)], [])) (fun e => orL l = e) (fun e => (.ret, [(2, d_i e)], []))
theorem orLoop_rule (l : List Int) (hpre : l.length ≤ maxLen) : LRuleP Tryd.prog Tryd.f33.ntmps (loopAt ((Tryd.f33.body).getD .skip) 3) (lp_orLoop l) := by
  refine lrule_of2 (α := Nat) (β := Unit) (γ := Int) (call := noCalls) (lp := fun _ => none) (N := 10) T_ok mixed noCalls_ok (fun i => l.length - i) (by kernel_rfl) (LpAllP.none _) ?_
  intro x hJ
  refine of_eq (B := letI z5 := (Exit.exit (0 : Nat)); letI z10 := (Prod.mk (3 : Nat) (d_i (0 : Int))); letI z1 := ([] : List (Option Blk)); letI z0 := (Prod.mk z5 (Prod.mk [z10] z1)); letI z6 := ((x : Nat) : Int); letI z11 := ((Int.toNat z6) * (1 : Nat)); letI z2 := (List.getD (intsD l) z11 (Inhabited.default)); letI z3 := (Prod.mk (3 : Nat) (D.v (Value.int IntKind.i64 (0 : Int)))); letI z4 := List.length l; letI z7 := (List (Option Nat)); letI z8 := ((z4 : Nat) : Int); letI z9 := (Prod.mk (6 : Nat) (D.ro z4 (intsD l))); letI z12 := ((orL l) = (0 : Int)); (True ∧ (pcond (Decidable.decide (z6 < z8)) ((((0 : Int) ≤ z6) ∧ (z6 < z8)) ∧ (((z11 < (List.length (intsD l))) ∧ (IsInt IntKind.i64 z2)) ∧ (True ∧ (True ∧ (True ∧ (True ∧ (pcond ((cellInt z2) != (0 : Int)) (True ∧ (True ∧ ((∃ (r : Unit), (∃ (kp : z7), (z12 ∧ ((Exit.ret = z5) ∧ (viewAll kp [z3] z1 (Prod.fst (Prod.snd ((fun (x_1 : Unit) => z0) r))) (Prod.snd (Prod.snd ((fun (x_1 : Unit) => z0) r)))))))) ∨ (∃ (r : Int), (∃ (kp : z7), (((orL l) = r) ∧ ((Exit.ret = Exit.ret) ∧ (viewAll kp [(Prod.mk (2 : Nat) (D.v (Value.int IntKind.i64 (cellInt z2))))] z1 (Prod.fst (Prod.snd ((fun (e : Int) => (Prod.mk Exit.ret (Prod.mk [(Prod.mk (2 : Nat) (d_i e))] z1))) r))) (Prod.snd (Prod.snd ((fun (e : Int) => (Prod.mk Exit.ret (Prod.mk [(Prod.mk (2 : Nat) (d_i e))] z1))) r))))))))))) (True ∧ (True ∧ (∃ (y : Nat), (∃ (kp : z7), (((z4 - y) < (z4 - x)) ∧ (((y ≤ z4) ∧ (∀ (j : Nat), ((j < y) → ((List.getD l j (0 : Int)) = (0 : Int))))) ∧ (viewAll kp [z3, z9, (Prod.mk (7 : Nat) (D.v (Value.int IntKind.i64 z8))), (Prod.mk (8 : Nat) (D.v (Value.int IntKind.i64 (IntKind.wrap IntKind.i64 (z6 + (1 : Int))))))] z1 [z10, z9, (Prod.mk (7 : Nat) (d_i z8)), (Prod.mk (8 : Nat) (d_i ((y : Nat) : Int)))] z1)))))))))))))) ((∃ (r : Unit), (∃ (kp : z7), (z12 ∧ ((z5 = z5) ∧ (viewAll kp [z3] z1 (Prod.fst (Prod.snd ((fun (x_1 : Unit) => z0) r))) (Prod.snd (Prod.snd ((fun (x_1 : Unit) => z0) r)))))))) ∨ (∃ (r : Int), (∃ (kp : z7), (((orL l) = r) ∧ ((z5 = Exit.ret) ∧ (viewAll kp ([] : List (Prod Nat D)) z1 (Prod.fst (Prod.snd ((fun (e : Int) => (Prod.mk Exit.ret (Prod.mk [(Prod.mk (2 : Nat) (d_i e))] z1))) r))) (Prod.snd (Prod.snd ((fun (e : Int) => (Prod.mk Exit.ret (Prod.mk [(Prod.mk (2 : Nat) (d_i e))] z1))) r)))))))))))) (by kernel_rfl) ?_
  have hm : l.length ≤ 9223372036854775807 := hpre
  obtain ⟨hx, hall⟩ := hJ
  simp only [true_and, and_true, and_self, IsInt_lit, IsBool_lit, IsStr_lit, IsSl_lit, cellN_lit, cellL_lit, Bool.not_eq_true', Bool.not_eq_false', Bool.not_true, Bool.not_false, Int.reduceLE, Int.reduceLT, Int.reduceNeg, Nat.le_refl, Int.le_refl, Nat.reduceLT, Nat.reduceLeDiff, Nat.reduceEqDiff, D.v.injEq, D.tup.injEq, D.agg.injEq, D.ro.injEq, List.cons.injEq, Value.int.injEq, Value.bool.injEq, pcond_true, pcond_false, NamelessL, Nameless, Nat.reduceMul, Nat.reduceAdd, Nat.zero_add, Int.toNat_natCast]
  refine pcond_intro (fun h => ?_) (fun h => .inl ⟨(), [], ?_, ⟨rfl, rfl, ⟨trivial, rfl⟩, trivial⟩⟩)
  · simp only [decide_eq_true_eq] at h
    have hxa : x < l.length := by omega
    have ga := intsD_get l x hxa
    have ha := intsD_length l
    simp only [Nat.mul_one, ga, cellInt_lit, IsInt_lit, wrap_succ hxa hm, true_and, and_true]
    refine ⟨⟨by omega, by omega⟩, by omega, pcond_intro (fun h1 => ?_) (fun h1 => ?_)⟩
    · rw [bne_iff_ne] at h1
      exact .inr ⟨l.getD x 0, [], firstE_at (f := fun i => l.getD i 0) hxa hall h1, ⟨rfl, rfl, ⟨trivial, rfl⟩, trivial⟩⟩
    · rw [bne_eq_false_iff_eq] at h1
      exact ⟨x + 1, [], by omega, ⟨by omega, next_all (f := fun i => l.getD i 0) hall h1⟩, ⟨rfl, rfl, ⟨trivial, rfl⟩, ⟨trivial, rfl⟩, ⟨trivial, rfl⟩, ⟨trivial, rfl⟩, trivial⟩⟩
  · simp only [decide_eq_false_iff_not] at h
    exact firstE_zero fun j hj => hall j (by omega)
theorem por_pure (l : List Int) (hpre : l.length ≤ maxLen) : PureJ Tryd.prog 33 [.ro l.length (intsD l)] (.v (.int .i64 (orL l))) := by
  refine pureJ_of_vcp (call := noCalls) (lp := fun reg__ => bif Nat.beq reg__ 3 then some (lp_orLoop l) else none) (N := 10) T_ok mixed noCalls_ok Tryd.func33 rfl (by decide) (by kernel_rfl) (by kernel_rfl) (of_eq (B := LRuleP Tryd.prog Tryd.f33.ntmps (loopAt ((Tryd.f33.body).getD .skip) 3) (lp_orLoop l) ∧ True) (by kernel_rfl) ⟨orLoop_rule l hpre, trivial⟩) (by first | exact ⟨intsD_nl l, trivial⟩ | trivial) (by first | exact ⟨intsD_nl l, trivial⟩ | trivial) ?_
  refine of_eq (B := letI z0 := (D.v (Value.int IntKind.i64 (0 : Int))); letI z2 := List.length l; letI z1 := (D.v (Value.int IntKind.i64 ((z2 : Nat) : Int))); letI z3 := (D.v (Value.int IntKind.i64 (orL l))); letI z4 := ([] : List (Option Blk)); letI z5 := (True ∧ (z0 = z0)); letI z6 := (D.ro z2 (intsD l)); (True ∧ (True ∧ (True ∧ (True ∧ (True ∧ ((((0 : Nat) ≤ z2) ∧ (∀ (j : Nat), ((j < (0 : Nat)) → ((List.getD l j (0 : Int)) = (0 : Int))))) ∧ (((Bool.true = Bool.true) ∧ ((z4 = z4) ∧ (z5 ∧ ((True ∧ (z6 = z6)) ∧ ((True ∧ (z1 = z1)) ∧ (z5 ∧ True)))))) ∧ ((Unit → (((orL l) = (0 : Int)) → (True ∧ (True ∧ (True ∧ (True ∧ (z0 = z3))))))) ∧ (∀ (r : Int), (((orL l) = r) → (True ∧ (True ∧ ((D.v (Value.int IntKind.i64 r)) = z3)))))))))))))) (by kernel_rfl) ?_
  simp only [true_and, and_true, and_self, IsInt_lit, IsBool_lit, IsStr_lit, IsSl_lit, cellN_lit, cellL_lit, Bool.not_eq_true', Bool.not_eq_false', Bool.not_true, Bool.not_false, Int.reduceLE, Int.reduceLT, Int.reduceNeg, Nat.le_refl, Int.le_refl, Nat.reduceLT, Nat.reduceLeDiff, Nat.reduceEqDiff, D.v.injEq, D.tup.injEq, D.agg.injEq, D.ro.injEq, List.cons.injEq, Value.int.injEq, Value.bool.injEq, pcond_true, pcond_false, NamelessL, Nameless, Nat.reduceMul, Nat.reduceAdd, Nat.zero_add, Int.toNat_natCast]
  exact ⟨⟨Nat.zero_le _, fun j h => absurd h (Nat.not_lt_zero _)⟩, fun _ h => h.symm, fun _ h => h.symm⟩
def ent_por : Ent := fun ds => match ds with
  | [.ro 4 [.v (.int .i64 a), .v (.int .i64 b), .v (.int .i64 c), .v (.int .i64 d)]] => some (.v (.int .i64 (orE a (orE b (orE c d)))), True)
  | [.ro 5 [.v (.int .i64 a), .v (.int .i64 b), .v (.int .i64 c), .v (.int .i64 d), .v (.int .i64 e)]] => some (.v (.int .i64 (orE a (orE b (orE c (orE d e))))), True)
  | _ => none
theorem orE_z (b : Int) : orE 0 b = b := rfl
theorem orE_or (f : Nat → Int) : orE (f 0) (orE (f 1) (orE (f 2) (f 3))) = firstE f 4 ∧ orE (f 0) (orE (f 1) (orE (f 2) (orE (f 3) (f 4)))) = firstE f 5 := by
  simp only [firstE, orE]
  cases h0 : (f 0 == 0) <;> cases h1 : (f 1 == 0) <;> cases h2 : (f 2 == 0) <;> cases h3 : (f 3 == 0) <;> simp [h0, h1, h2, h3]
theorem ent_por_ok : EntOk Tryd.prog 33 ent_por := by
  intro ds d c hd hc; unfold ent_por at hd; split at hd
  · rename_i a b c d
    obtain ⟨rfl, rfl⟩ := pair_inj hd
    have := por_pure [a, b, c, d] (by simp [maxLen])
    rw [show orL [a, b, c, d] = orE a (orE b (orE c d)) from ((orE_or fun i => [a, b, c, d].getD i 0).1).symm] at this
    exact this
  · rename_i a b c d e
    obtain ⟨rfl, rfl⟩ := pair_inj hd
    have := por_pure [a, b, c, d, e] (by simp [maxLen])
    rw [show orL [a, b, c, d, e] = orE a (orE b (orE c (orE d e))) from ((orE_or fun i => [a, b, c, d, e].getD i 0).2).symm] at this
    exact this
  · cases hd
end Go.Proofs.YtfleadelfklenaaDoor
end
section
namespace Go.VD
set_option linter.unusedVariables false
set_option linter.unusedSimpArgs false
structure PtrJ (P : Program) (g : FuncId) (off : Nat) (plain : List D) (blk : Blk) (d : D) (blk' : Blk) : Prop where
  call : CallJ P g (.ptr 0 off :: plain) [some blk] d [some blk']
  plain : NamelessL plain
  res : Nameless d
  cs : NamelessL blk.cs
  cs' : NamelessL blk'.cs
end Go.VD
end
section
namespace Go.VD
set_option linter.unusedVariables false
set_option linter.unusedSimpArgs false
theorem DWK.scopeJump {k : Nat} {P : Program} {nt : Nat} {α : Type} {l : Nat} (J : α → Prop) (I : α → Env) (HI : α → Heap) (μ : α → Nat) {c rest : Code} {Q : Exit → Env → Heap → Prop} {env : Env} {H : Heap} (hf : findLabel c l = some rest)
    (first : DWK k P nt c (jumpQ l (fun env' H' => ∃ y, J y ∧ ViewK k nt env' H' (I y) (HI y)) Q) env H)
    (pass : ∀ x, J x → DWK k P nt rest (jumpQ l (fun env' H' => ∃ y, μ y < μ x ∧ J y ∧ ViewK k nt env' H' (I y) (HI y)) Q) (I x) (HI x)) : DWK k P nt (.scope c) Q env H := by
  intro hk ρ S w a hi
  refine wp_scope_ghost l (fun n a' w' => ∃ x ρ' S', μ x = n ∧ J x ∧ k ≤ (HI x).length ∧ Inv nt ρ' S' w' (HI x) (I x) a' ∧ (ctx ρ S w H).lek k (ctx ρ' S' w' (HI x))) hf ?_ ?_
  · refine wp_mono (first hk ρ S w a hi) fun e a' w' ⟨env', H', ρ', S', h1, h2, h3, h4⟩ => ?_
    cases e with
    | goto l' =>
      obtain ⟨rfl, y, hJ, v⟩ := h1
      obtain ⟨hk2, v⟩ := v h2
      obtain ⟨ρ3, S3, hi3, hle3⟩ := v ρ' S' w' a' h3
      exact ⟨rfl, μ y, y, ρ3, S3, rfl, hJ, hk2, hi3, h4.trans hle3⟩
    | _ => exact ⟨env', H', ρ', S', h1, h2, h3, h4⟩
  · rintro n a' w' ⟨x, ρ', S', rfl, hx, hkx, hi', hle⟩
    refine wp_mono (pass x hx hkx ρ' S' w' a' hi') fun e a'' w'' ⟨env', H', ρ'', S'', h1, h2, h3, h4⟩ => ?_
    cases e with
    | goto l' =>
      obtain ⟨rfl, y, hy, hJ, v⟩ := h1
      obtain ⟨hk2, v⟩ := v h2
      obtain ⟨ρ3, S3, hi3, hle3⟩ := v ρ'' S'' w'' a'' h3
      exact ⟨rfl, μ y, hy, y, ρ3, S3, rfl, hJ, hk2, hi3, (hle.trans h4).trans hle3⟩
    | _ => exact ⟨env', H', ρ'', S'', h1, h2, h3, hle.trans h4⟩
section
variable {P : Program} {T : Tbl} (hT : TblOk P T) {nt N : Nat} {call : CallO} {lp : Nat → Option LoopO}
include hT
end
def RdTo (d0 d : D) : Prop := ∀ (E : Ctx) (u : Value), Rd E d0 u → Rd E d u
theorem RdTo.refl (d : D) : RdTo d d := fun _ _ h => h
theorem RdTo.nil : RdTo (.v (.slice none 0 0)) (.ro 0 []) := fun E u h => by
  simp only [Rd] at h; subst h
  simp only [Rd]
  exact ⟨by simp [NamelessL], none, 0, rfl, Nat.le_refl _, Nat.zero_le _, fun h => absurd h (Nat.lt_irrefl 0)⟩
end Go.VD
end
