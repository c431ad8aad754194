import Derived.Test.YtfleadelfklenaaGreatDoorZGw21
import Derived.Test.YtfleadelfklenaaGreatDoorZGw12
import Derived.Lib.Strings
section
namespace Go.Proofs.YtfleadelfklenaaGreatDoor
open Go.VD
set_option linter.unusedVariables false
set_option linter.unusedSimpArgs false
set_option maxRecDepth 100000
def d_ncH (s : Stn) (l : List ByteArray) : Heap := [some ⟨27, d_stnL s, true⟩, some ⟨113, [.v (.slice none 0 0), .v (.map none), .v (.map none)], true⟩, d_nm l, d_tk [], some ⟨113, d_chk s.ba.length (baysD s.ba) 2 3, true⟩]
def nmA (s : Stn) (b l g q : Nat) : List ByteArray := putL [] (nm3 s b l g q)
theorem nmA1 (s : Stn) {i : Nat} (h : i < s.bu.length) : nmA s (i + 1) 0 0 0 = putN (nmA s i 0 0 0) (s.bu.getD i default) := by
  unfold nmA; rw [← putL_succ, nm3_zero, nm2_zero, nm1_zero, nm3_zero, nm2_zero, nm1_zero]
  have := take_next s.bu id i h
  simp only [List.map_id] at this
  rw [this]; rfl
theorem nmA2 (s : Stn) (b : Nat) {i : Nat} (h : i < s.li.length) : nmA s b (i + 1) 0 0 = putN (nmA s b i 0 0) (s.li.getD i default).n := by
  unfold nmA; rw [← putL_succ, nm3_zero, nm2_zero, nm3_zero, nm2_zero, nm1_succ _ _ h]
theorem nmA3 (s : Stn) (b l : Nat) {i : Nat} (h : i < s.so.length) : nmA s b l (i + 1) 0 = putN (nmA s b l i 0) (s.so.getD i default).n := by
  unfold nmA; rw [← putL_succ, nm3_zero, nm3_zero, nm2_succ _ _ _ h]
theorem nmA4 (s : Stn) (b l g : Nat) {i : Nat} (h : i < s.ba.length) : nmA s b l g (i + 1) = putN (nmA s b l g i) (s.ba.getD i default).n := by
  unfold nmA; rw [← putL_succ, nm3_succ _ _ _ _ h]
theorem nm_hdr (l l2 : List ByteArray) (s : ByteArray) (h : l2 = putN l s) : nmM l2 = .v (.map none) :: .v (.bool false) :: .v (.bool false) :: .v (.int .i64 1) :: .v (.int .i64 1) :: .v (.string ⟨#[]⟩) :: mPut [.string ⟨#[]⟩] 1 [d_s s] [d_b true] (nmC l) := by rw [h, put_nm]; rfl
def lp_ncL1 (s : Stn) : LoopO := loopRuleK (α := Nat) (β := Unit) 0 [.old 0, .old 1, .old 2, .old 3, .sam 4] (fun i => i ≤ s.bu.length) (fun i => [(1, .ptr 0 0), (2, .ptr 1 0), (3, .ptr 4 0), (18, .ro s.bu.length (busesD s.bu)), (19, d_i (s.bu.length : Int)), (20, d_i (i : Int))]) (fun i => d_ncH s (nmA s i 0 0 0)) (0) (fun _ => True) (fun _ => (.exit 0, [(1, .ptr 0 0), (2, .ptr 1 0), (3, .ptr 4 0)], d_ncH s (nmA s s.bu.length 0 0 0)))
theorem ncL1_rule (s : Stn) (hpre : okStn s) : LRuleK 0 Tryz.prog Tryz.f53.ntmps (loopAt ((Tryz.f53.body).getD .skip) 3) (lp_ncL1 s) := by
  refine lruleK_of (α := Nat) (β := Unit) (call := noCalls) (lp := fun _ => none) (N := 10) T_ok mixed noCalls_ok (fun i => s.bu.length - i) (by kernel_rfl) (LpAllK.none _) ?_
  intro x hJ
  refine of_eq (B := letI z9 := (D.v (Value.map (Option.none))); letI z10 := Value.bool Bool.false; letI z8 := (D.v (Value.int IntKind.i64 (1 : Int))); letI z0 := (List.cons z9 (List.cons (D.v z10) (List.cons (D.v z10) (List.cons z8 (List.cons z8 (List.cons (D.v (Value.string (ByteArray.mk (Array.mk ([] : List UInt8))))) (nmC (nmA s x (0 : Nat) (0 : Nat) (0 : Nat))))))))); letI z18 := (busesD (Stn.bu s)); letI z17 := ((x : Nat) : Int); letI z26 := ((Int.toNat z17) * (1 : Nat)); letI z15 := (List.getD z18 z26 (Inhabited.default)); letI z1 := (D.v (Value.string (cellStr z15))); letI z19 := (1000000007 : Nat); letI z2 := (Option.some (Blk.mk z19 (List.cons z9 (List.cons (D.v z10) (List.cons (D.v z10) (List.cons z8 (List.cons z8 (List.cons (D.v (Value.int IntKind.i64 (0 : Int))) (tkC ([] : List Int)))))))) Bool.true)); letI z25 := Value.string ByteArray.empty; letI z3 := (TI.mk TD.str (1 : Nat) (16 : Nat) [z25]); letI z6 := (List.length (Stn.bu s)); letI z20 := (D.ro (List.length (Stn.ba s)) (baysD (Stn.ba s))); letI z4 := (Option.some (Blk.mk (27 : Nat) [(D.v (Value.string (Stn.n s))), (D.ro z6 z18), (D.ro (List.length (Stn.li s)) (linesD (Stn.li s))), (D.ro (List.length (Stn.so s)) (srcsD (Stn.so s))), z20] Bool.true)); letI z23 := (Exit.exit (0 : Nat)); letI z11 := (Prod.mk (1 : Nat) (D.ptr (0 : Nat) (0 : Nat))); letI z12 := (Prod.mk (2 : Nat) (D.ptr (1 : Nat) (0 : Nat))); letI z13 := (Prod.mk (3 : Nat) (D.ptr (4 : Nat) (0 : Nat))); letI z5 := (Prod.mk z23 (Prod.mk [z11, z12, z13] (d_ncH s (nmA s z6 (0 : Nat) (0 : Nat) (0 : Nat))))); letI z7 := (Option.some (Blk.mk (113 : Nat) [z20, (D.ifc z19 (D.ptr (2 : Nat) (0 : Nat))), (D.ifc z19 (D.ptr (3 : Nat) (0 : Nat)))] Bool.true)); letI z14 := (Option.some (Blk.mk (113 : Nat) [(D.v (Value.slice (Option.none) (0 : Nat) (0 : Nat))), z9, z9] Bool.true)); letI z22 := (TI.mk TD.bool (1 : Nat) (1 : Nat) [z10]); letI z16 := (List.drop (List.length (hdrOf z3 z22)) z0); letI z21 := ((z6 : Nat) : Int); letI z24 := (Prod.mk (18 : Nat) (D.ro z6 z18)); letI z27 := (D.v (Value.bool Bool.true)); letI z28 := (List.length (TI.zero z3)); letI z29 := (List.drop (6 : Nat) z0); (True ∧ (pcond (Decidable.decide (z17 < z21)) ((((0 : Int) ≤ z17) ∧ (z17 < z21)) ∧ (((z26 < (List.length z18)) ∧ (IsStr z15)) ∧ (True ∧ (True ∧ (((1 : Nat) < (3 : Nat)) ∧ (True ∧ ((((IsStr z1) ∧ True) ∧ ((1 : Nat) = (1 : Nat))) ∧ (True ∧ (True ∧ (∃ (y : Nat), (∃ (kp : (List KE)), (((z6 - y) < (z6 - x)) ∧ ((y ≤ z6) ∧ (viewAllK (0 : Nat) kp [z11, z12, z13, z24, (Prod.mk (19 : Nat) (D.v (Value.int IntKind.i64 z21))), (Prod.mk (20 : Nat) (D.v (Value.int IntKind.i64 (IntKind.wrap IntKind.i64 (z17 + (1 : Int))))))] [z4, z14, (Option.some (Blk.mk z19 (List.cons z9 (List.cons (D.v z10) (List.cons (D.v z10) (List.cons z8 (List.cons z8 (List.cons (D.v z25) (List.append ([] : List D) (cond.match_1 (fun (c : Bool) => (List D)) (List.any (chunks (2 : Nat) (List.length z29) z29) (fun (e : (List D)) => (keyEq (TI.zero z3) [z1] e))) (fun (_ : Unit) => (List.flatMap (fun (e : (List D)) => (cond (keyEq (TI.zero z3) [z1] e) ((List.take z28 e) ++ [z27]) e)) (mEnts (z28 + (TI.size z22)) z16))) (fun (_ : Unit) => (z16 ++ ([z1] ++ [z27]))))))))))) Bool.true)), z2, z7] [z11, z12, z13, z24, (Prod.mk (19 : Nat) (d_i z21)), (Prod.mk (20 : Nat) (d_i ((y : Nat) : Int)))] (d_ncH s (nmA s y (0 : Nat) (0 : Nat) (0 : Nat))))))))))))))))) (∃ (r : Unit), (∃ (kp : (List KE)), (True ∧ ((z23 = z23) ∧ (viewAllK (0 : Nat) kp [z11, z12, z13] [z4, z14, (Option.some (Blk.mk z19 z0 Bool.true)), z2, z7] (Prod.fst (Prod.snd ((fun (x_1 : Unit) => z5) r))) (Prod.snd (Prod.snd ((fun (x_1 : Unit) => z5) r))))))))))) (by kernel_rfl) ?_
  have hm : s.bu.length ≤ 9223372036854775807 := (okStn_lens hpre).1
  have hx : x ≤ s.bu.length := hJ
  have nS : NamelessL (d_stnL s) := stnD_nl s
  simp only [true_and, and_true, and_self, IsInt_lit, IsBool_lit, IsStr_lit, IsSl_lit, cellN_lit, cellL_lit, Bool.not_eq_true', Bool.not_eq_false', Bool.not_true, Bool.not_false, Int.reduceLE, Int.reduceLT, Int.reduceNeg, Nat.le_refl, Int.le_refl, Nat.reduceLT, Nat.reduceLeDiff, Nat.reduceEqDiff, D.v.injEq, D.tup.injEq, D.agg.injEq, D.ro.injEq, List.cons.injEq, Value.int.injEq, Value.bool.injEq, pcond_true, pcond_false, NamelessL, Nameless, Nat.reduceMul, Nat.reduceAdd, Nat.zero_add, Int.toNat_natCast]
  refine pcond_intro (fun h => ?_) (fun h => ?_)
  · simp only [decide_eq_true_eq] at h
    have hxa : x < s.bu.length := by omega
    have ga := busesD_get s.bu x hxa
    have ha := busesD_length s.bu
    have hc := nm_hdr _ _ _ (nmA1 s hxa)
    have hn := nmM_nl (nmA s (x + 1) 0 0 0)
    rw [hc] at hn
    simp only [Int.toNat_natCast, Nat.mul_one, ga, cellStr_lit, IsStr_lit, cellInt_lit, IsInt_lit, cellBool_lit, IsBool_lit, cellN_lit, cellL_lit, IsSl_lit, wrap_succ hxa hm, true_and, and_true, and_self]
    refine ⟨⟨by omega, by omega⟩, by omega, x + 1, [.old 0, .old 1, .old 2, .old 3, .sam 4], by omega, by omega, ⟨rfl, ⟨⟨rfl, nS⟩, ⟨rfl, trivial, trivial, trivial, trivial⟩, ⟨(congrArg (fun c => some (Blk.mk itTy c true)) hc).trans rfl, hn⟩, ⟨rfl, tkM_nl []⟩, ⟨rfl, rfl⟩, rfl⟩, ⟨trivial, rfl⟩, ⟨trivial, rfl⟩, ⟨trivial, rfl⟩, ⟨trivial, rfl⟩, ⟨trivial, rfl⟩, ⟨trivial, rfl⟩, trivial⟩⟩
  · simp only [decide_eq_false_iff_not] at h
    have e : x = s.bu.length := by omega
    subst e
    exact ⟨(), [.old 0, .old 1, .old 2, .old 3, .sam 4], ⟨rfl, ⟨⟨rfl, nS⟩, ⟨rfl, trivial, trivial, trivial, trivial⟩, ⟨rfl, nmM_nl _⟩, ⟨rfl, tkM_nl []⟩, ⟨rfl, rfl⟩, rfl⟩, ⟨trivial, rfl⟩, ⟨trivial, rfl⟩, ⟨trivial, rfl⟩, trivial⟩⟩
def lp_ncL2 (s : Stn) : LoopO := loopRuleK (α := Nat) (β := Unit) 0 [.old 0, .old 1, .old 2, .old 3, .sam 4] (fun i => i ≤ s.li.length) (fun i => [(1, .ptr 0 0), (2, .ptr 1 0), (3, .ptr 4 0), (29, .ro s.li.length (linesD s.li)), (30, d_i (s.li.length : Int)), (31, d_i (i : Int))]) (fun i => d_ncH s (nmA s s.bu.length i 0 0)) (0) (fun _ => True) (fun _ => (.exit 2, [(1, .ptr 0 0), (2, .ptr 1 0), (3, .ptr 4 0)], d_ncH s (nmA s s.bu.length s.li.length 0 0)))
theorem ncL2_rule (s : Stn) (hpre : okStn s) : LRuleK 0 Tryz.prog Tryz.f53.ntmps (loopAt ((Tryz.f53.body).getD .skip) 8) (lp_ncL2 s) := by
  refine lruleK_of (α := Nat) (β := Unit) (call := noCalls) (lp := fun _ => none) (N := 10) T_ok mixed noCalls_ok (fun i => s.li.length - i) (by kernel_rfl) (LpAllK.none _) ?_
  intro x hJ
  refine of_eq (B := letI z11 := (D.v (Value.map (Option.none))); letI z12 := Value.bool Bool.false; letI z10 := (D.v (Value.int IntKind.i64 (1 : Int))); letI z20 := (List.length (Stn.bu s)); letI z0 := (List.cons z11 (List.cons (D.v z12) (List.cons (D.v z12) (List.cons z10 (List.cons z10 (List.cons (D.v (Value.string (ByteArray.mk (Array.mk ([] : List UInt8))))) (nmC (nmA s z20 x (0 : Nat) (0 : Nat))))))))); letI z8 := (linesD (Stn.li s)); letI z22 := ((x : Nat) : Int); letI z2 := ((Int.toNat z22) * (5 : Nat)); letI z30 := (List.getD z8 z2 (Inhabited.default)); letI z1 := (D.v (Value.string (cellStr z30))); letI z21 := (1000000007 : Nat); letI z3 := (Option.some (Blk.mk z21 (List.cons z11 (List.cons (D.v z12) (List.cons (D.v z12) (List.cons z10 (List.cons z10 (List.cons (D.v (Value.int IntKind.i64 (0 : Int))) (tkC ([] : List Int)))))))) Bool.true)); letI z32 := Value.string ByteArray.empty; letI z4 := (TI.mk TD.str (1 : Nat) (16 : Nat) [z32]); letI z7 := (List.length (Stn.li s)); letI z25 := (D.ro (List.length (Stn.ba s)) (baysD (Stn.ba s))); letI z5 := (Option.some (Blk.mk (27 : Nat) [(D.v (Value.string (Stn.n s))), (D.ro z20 (busesD (Stn.bu s))), (D.ro z7 z8), (D.ro (List.length (Stn.so s)) (srcsD (Stn.so s))), z25] Bool.true)); letI z28 := (Exit.exit (2 : Nat)); letI z14 := (Prod.mk (1 : Nat) (D.ptr (0 : Nat) (0 : Nat))); letI z15 := (Prod.mk (2 : Nat) (D.ptr (1 : Nat) (0 : Nat))); letI z16 := (Prod.mk (3 : Nat) (D.ptr (4 : Nat) (0 : Nat))); letI z6 := (Prod.mk z28 (Prod.mk [z14, z15, z16] (d_ncH s (nmA s z20 z7 (0 : Nat) (0 : Nat))))); letI z9 := (Option.some (Blk.mk (113 : Nat) [z25, (D.ifc z21 (D.ptr (2 : Nat) (0 : Nat))), (D.ifc z21 (D.ptr (3 : Nat) (0 : Nat)))] Bool.true)); letI z13 := ((z2 + (1 : Nat)) + (1 : Nat)); letI z17 := (Option.some (Blk.mk (113 : Nat) [(D.v (Value.slice (Option.none) (0 : Nat) (0 : Nat))), z11, z11] Bool.true)); letI z27 := (TI.mk TD.bool (1 : Nat) (1 : Nat) [z12]); letI z18 := (List.drop (List.length (hdrOf z4 z27)) z0); letI z19 := (List.getD z8 ((z13 + (1 : Nat)) + (1 : Nat)) (Inhabited.default)); letI z23 := (List.getD z8 (z13 + (1 : Nat)) (Inhabited.default)); letI z24 := (List.getD z8 (z2 + (1 : Nat)) (Inhabited.default)); letI z26 := ((z7 : Nat) : Int); letI z29 := (List.getD z8 z13 (Inhabited.default)); letI z31 := (Prod.mk (29 : Nat) (D.ro z7 z8)); letI z33 := (D.v (Value.bool Bool.true)); letI z34 := (List.length (TI.zero z4)); letI z35 := (List.drop (6 : Nat) z0); (True ∧ (pcond (Decidable.decide (z22 < z26)) ((((0 : Int) ≤ z22) ∧ (z22 < z26)) ∧ ((((z2 + (5 : Nat)) ≤ (List.length z8)) ∧ ((IsStr z30) ∧ ((IsInt IntKind.i64 z24) ∧ ((IsInt IntKind.i64 z29) ∧ ((IsInt IntKind.i64 z23) ∧ ((IsInt IntKind.i64 z19) ∧ True)))))) ∧ (True ∧ ((((5 : Nat) = (5 : Nat)) ∧ ((5 : Nat) ≤ (5 : Nat))) ∧ (True ∧ (((1 : Nat) < (3 : Nat)) ∧ (True ∧ ((((0 : Nat) < (5 : Nat)) ∧ (IsStr z1)) ∧ ((((IsStr z1) ∧ True) ∧ ((1 : Nat) = (1 : Nat))) ∧ (True ∧ (True ∧ (∃ (y : Nat), (∃ (kp : (List KE)), (((z7 - y) < (z7 - x)) ∧ ((y ≤ z7) ∧ (viewAllK (0 : Nat) kp [z14, z15, z16, z31, (Prod.mk (30 : Nat) (D.v (Value.int IntKind.i64 z26))), (Prod.mk (31 : Nat) (D.v (Value.int IntKind.i64 (IntKind.wrap IntKind.i64 (z22 + (1 : Int))))))] [z5, z17, (Option.some (Blk.mk z21 (List.cons z11 (List.cons (D.v z12) (List.cons (D.v z12) (List.cons z10 (List.cons z10 (List.cons (D.v z32) (List.append ([] : List D) (cond.match_1 (fun (c : Bool) => (List D)) (List.any (chunks (2 : Nat) (List.length z35) z35) (fun (e : (List D)) => (keyEq (TI.zero z4) [z1] e))) (fun (_ : Unit) => (List.flatMap (fun (e : (List D)) => (cond (keyEq (TI.zero z4) [z1] e) ((List.take z34 e) ++ [z33]) e)) (mEnts (z34 + (TI.size z27)) z18))) (fun (_ : Unit) => (z18 ++ ([z1] ++ [z33]))))))))))) Bool.true)), z3, z9, (Option.some (Blk.mk (78 : Nat) [z1, (D.v (Value.int IntKind.i64 (cellInt z24))), (D.v (Value.int IntKind.i64 (cellInt z29))), (D.v (Value.int IntKind.i64 (cellInt z23))), (D.v (Value.int IntKind.i64 (cellInt z19)))] Bool.true))] [z14, z15, z16, z31, (Prod.mk (30 : Nat) (d_i z26)), (Prod.mk (31 : Nat) (d_i ((y : Nat) : Int)))] (d_ncH s (nmA s z20 y (0 : Nat) (0 : Nat))))))))))))))))))) (∃ (r : Unit), (∃ (kp : (List KE)), (True ∧ ((z28 = z28) ∧ (viewAllK (0 : Nat) kp [z14, z15, z16] [z5, z17, (Option.some (Blk.mk z21 z0 Bool.true)), z3, z9] (Prod.fst (Prod.snd ((fun (x_1 : Unit) => z6) r))) (Prod.snd (Prod.snd ((fun (x_1 : Unit) => z6) r))))))))))) (by kernel_rfl) ?_
  have hm : s.li.length ≤ 9223372036854775807 := (okStn_lens hpre).2.1
  have hx : x ≤ s.li.length := hJ
  have nS : NamelessL (d_stnL s) := stnD_nl s
  simp only [true_and, and_true, and_self, IsInt_lit, IsBool_lit, IsStr_lit, IsSl_lit, cellN_lit, cellL_lit, Bool.not_eq_true', Bool.not_eq_false', Bool.not_true, Bool.not_false, Int.reduceLE, Int.reduceLT, Int.reduceNeg, Nat.le_refl, Int.le_refl, Nat.reduceLT, Nat.reduceLeDiff, Nat.reduceEqDiff, D.v.injEq, D.tup.injEq, D.agg.injEq, D.ro.injEq, List.cons.injEq, Value.int.injEq, Value.bool.injEq, pcond_true, pcond_false, NamelessL, Nameless, Nat.reduceMul, Nat.reduceAdd, Nat.zero_add, Int.toNat_natCast]
  refine pcond_intro (fun h => ?_) (fun h => ?_)
  · simp only [decide_eq_true_eq] at h
    have hxa : x < s.li.length := by omega
    have ga := linesD_get s.li x hxa
    have ha := linesD_length s.li
    have hc := nm_hdr _ _ _ (nmA2 s s.bu.length hxa)
    have hn := nmM_nl (nmA s s.bu.length (x + 1) 0 0)
    rw [hc] at hn
    simp only [Int.toNat_natCast, Nat.mul_one, ga, cellStr_lit, IsStr_lit, cellInt_lit, IsInt_lit, cellBool_lit, IsBool_lit, cellN_lit, cellL_lit, IsSl_lit, wrap_succ hxa hm, true_and, and_true, and_self]
    refine ⟨⟨by omega, by omega⟩, by omega, x + 1, [.old 0, .old 1, .old 2, .old 3, .sam 4], by omega, by omega, ⟨rfl, ⟨⟨rfl, nS⟩, ⟨rfl, trivial, trivial, trivial, trivial⟩, ⟨(congrArg (fun c => some (Blk.mk itTy c true)) hc).trans rfl, hn⟩, ⟨rfl, tkM_nl []⟩, ⟨rfl, rfl⟩, rfl⟩, ⟨trivial, rfl⟩, ⟨trivial, rfl⟩, ⟨trivial, rfl⟩, ⟨trivial, rfl⟩, ⟨trivial, rfl⟩, ⟨trivial, rfl⟩, trivial⟩⟩
  · simp only [decide_eq_false_iff_not] at h
    have e : x = s.li.length := by omega
    subst e
    exact ⟨(), [.old 0, .old 1, .old 2, .old 3, .sam 4], ⟨rfl, ⟨⟨rfl, nS⟩, ⟨rfl, trivial, trivial, trivial, trivial⟩, ⟨rfl, nmM_nl _⟩, ⟨rfl, tkM_nl []⟩, ⟨rfl, rfl⟩, rfl⟩, ⟨trivial, rfl⟩, ⟨trivial, rfl⟩, ⟨trivial, rfl⟩, trivial⟩⟩
def lp_ncL3 (s : Stn) : LoopO := loopRuleK (α := Nat) (β := Unit) 0 [.old 0, .old 1, .old 2, .old 3, .sam 4] (fun i => i ≤ s.so.length) (fun i => [(1, .ptr 0 0), (2, .ptr 1 0), (3, .ptr 4 0), (41, .ro s.so.length (srcsD s.so)), (42, d_i (s.so.length : Int)), (43, d_i (i : Int))]) (fun i => d_ncH s (nmA s s.bu.length s.li.length i 0)) (0) (fun _ => True) (fun _ => (.exit 4, [(1, .ptr 0 0), (2, .ptr 1 0), (3, .ptr 4 0)], d_ncH s (nmA s s.bu.length s.li.length s.so.length 0)))
theorem ncL3_rule (s : Stn) (hpre : okStn s) : LRuleK 0 Tryz.prog Tryz.f53.ntmps (loopAt ((Tryz.f53.body).getD .skip) 13) (lp_ncL3 s) := by
  refine lruleK_of (α := Nat) (β := Unit) (call := noCalls) (lp := fun _ => none) (N := 10) T_ok mixed noCalls_ok (fun i => s.so.length - i) (by kernel_rfl) (LpAllK.none _) ?_
  intro x hJ
  refine of_eq (B := letI z12 := (D.v (Value.map (Option.none))); letI z13 := Value.bool Bool.false; letI z11 := (D.v (Value.int IntKind.i64 (1 : Int))); letI z20 := (List.length (Stn.bu s)); letI z21 := (List.length (Stn.li s)); letI z0 := (List.cons z12 (List.cons (D.v z13) (List.cons (D.v z13) (List.cons z11 (List.cons z11 (List.cons (D.v (Value.string (ByteArray.mk (Array.mk ([] : List UInt8))))) (nmC (nmA s z20 z21 x (0 : Nat))))))))); letI z24 := ((x : Nat) : Int); letI z1 := ((Int.toNat z24) * (6 : Nat)); letI z7 := (srcsD (Stn.so s)); letI z32 := (List.getD z7 z1 (Inhabited.default)); letI z2 := (D.v (Value.string (cellStr z32))); letI z23 := (1000000007 : Nat); letI z3 := (Option.some (Blk.mk z23 (List.cons z12 (List.cons (D.v z13) (List.cons (D.v z13) (List.cons z11 (List.cons z11 (List.cons (D.v (Value.int IntKind.i64 (0 : Int))) (tkC ([] : List Int)))))))) Bool.true)); letI z34 := Value.string ByteArray.empty; letI z4 := (TI.mk TD.str (1 : Nat) (16 : Nat) [z34]); letI z30 := (Exit.exit (4 : Nat)); letI z14 := (Prod.mk (1 : Nat) (D.ptr (0 : Nat) (0 : Nat))); letI z15 := (Prod.mk (2 : Nat) (D.ptr (1 : Nat) (0 : Nat))); letI z16 := (Prod.mk (3 : Nat) (D.ptr (4 : Nat) (0 : Nat))); letI z8 := (List.length (Stn.so s)); letI z5 := (Prod.mk z30 (Prod.mk [z14, z15, z16] (d_ncH s (nmA s z20 z21 z8 (0 : Nat))))); letI z27 := (D.ro (List.length (Stn.ba s)) (baysD (Stn.ba s))); letI z6 := (Option.some (Blk.mk (27 : Nat) [(D.v (Value.string (Stn.n s))), (D.ro z20 (busesD (Stn.bu s))), (D.ro z21 (linesD (Stn.li s))), (D.ro z8 z7), z27] Bool.true)); letI z9 := (Option.some (Blk.mk (113 : Nat) [z27, (D.ifc z23 (D.ptr (2 : Nat) (0 : Nat))), (D.ifc z23 (D.ptr (3 : Nat) (0 : Nat)))] Bool.true)); letI z35 := ((z1 + (1 : Nat)) + (1 : Nat)); letI z10 := (z35 + (1 : Nat)); letI z17 := (Option.some (Blk.mk (113 : Nat) [(D.v (Value.slice (Option.none) (0 : Nat) (0 : Nat))), z12, z12] Bool.true)); letI z29 := (TI.mk TD.bool (1 : Nat) (1 : Nat) [z13]); letI z18 := (List.drop (List.length (hdrOf z4 z29)) z0); letI z19 := (List.getD z7 ((z10 + (1 : Nat)) + (1 : Nat)) (Inhabited.default)); letI z22 := (List.getD z7 z35 (Inhabited.default)); letI z25 := (List.getD z7 (z10 + (1 : Nat)) (Inhabited.default)); letI z26 := (List.getD z7 (z1 + (1 : Nat)) (Inhabited.default)); letI z28 := ((z8 : Nat) : Int); letI z31 := (List.getD z7 z10 (Inhabited.default)); letI z33 := (Prod.mk (41 : Nat) (D.ro z8 z7)); letI z36 := (D.v (Value.bool Bool.true)); letI z37 := (List.length (TI.zero z4)); letI z38 := (List.drop (6 : Nat) z0); (True ∧ (pcond (Decidable.decide (z24 < z28)) ((((0 : Int) ≤ z24) ∧ (z24 < z28)) ∧ ((((z1 + (6 : Nat)) ≤ (List.length z7)) ∧ ((IsStr z32) ∧ ((IsInt IntKind.i64 z26) ∧ ((IsInt IntKind.i64 z22) ∧ ((IsInt IntKind.i64 z31) ∧ ((IsInt IntKind.i64 z25) ∧ ((IsInt IntKind.i64 z19) ∧ True))))))) ∧ (True ∧ ((((6 : Nat) = (6 : Nat)) ∧ ((6 : Nat) ≤ (6 : Nat))) ∧ (True ∧ (((1 : Nat) < (3 : Nat)) ∧ (True ∧ ((((0 : Nat) < (6 : Nat)) ∧ (IsStr z2)) ∧ ((((IsStr z2) ∧ True) ∧ ((1 : Nat) = (1 : Nat))) ∧ (True ∧ (True ∧ (∃ (y : Nat), (∃ (kp : (List KE)), (((z8 - y) < (z8 - x)) ∧ ((y ≤ z8) ∧ (viewAllK (0 : Nat) kp [z14, z15, z16, z33, (Prod.mk (42 : Nat) (D.v (Value.int IntKind.i64 z28))), (Prod.mk (43 : Nat) (D.v (Value.int IntKind.i64 (IntKind.wrap IntKind.i64 (z24 + (1 : Int))))))] [z6, z17, (Option.some (Blk.mk z23 (List.cons z12 (List.cons (D.v z13) (List.cons (D.v z13) (List.cons z11 (List.cons z11 (List.cons (D.v z34) (List.append ([] : List D) (cond.match_1 (fun (c : Bool) => (List D)) (List.any (chunks (2 : Nat) (List.length z38) z38) (fun (e : (List D)) => (keyEq (TI.zero z4) [z2] e))) (fun (_ : Unit) => (List.flatMap (fun (e : (List D)) => (cond (keyEq (TI.zero z4) [z2] e) ((List.take z37 e) ++ [z36]) e)) (mEnts (z37 + (TI.size z29)) z18))) (fun (_ : Unit) => (z18 ++ ([z2] ++ [z36]))))))))))) Bool.true)), z3, z9, (Option.some (Blk.mk (81 : Nat) [z2, (D.v (Value.int IntKind.i64 (cellInt z26))), (D.v (Value.int IntKind.i64 (cellInt z22))), (D.v (Value.int IntKind.i64 (cellInt z31))), (D.v (Value.int IntKind.i64 (cellInt z25))), (D.v (Value.int IntKind.i64 (cellInt z19)))] Bool.true))] [z14, z15, z16, z33, (Prod.mk (42 : Nat) (d_i z28)), (Prod.mk (43 : Nat) (d_i ((y : Nat) : Int)))] (d_ncH s (nmA s z20 z21 y (0 : Nat))))))))))))))))))) (∃ (r : Unit), (∃ (kp : (List KE)), (True ∧ ((z30 = z30) ∧ (viewAllK (0 : Nat) kp [z14, z15, z16] [z6, z17, (Option.some (Blk.mk z23 z0 Bool.true)), z3, z9] (Prod.fst (Prod.snd ((fun (x_1 : Unit) => z5) r))) (Prod.snd (Prod.snd ((fun (x_1 : Unit) => z5) r))))))))))) (by kernel_rfl) ?_
  have hm : s.so.length ≤ 9223372036854775807 := (okStn_lens hpre).2.2.1
  have hx : x ≤ s.so.length := hJ
  have nS : NamelessL (d_stnL s) := stnD_nl s
  simp only [true_and, and_true, and_self, IsInt_lit, IsBool_lit, IsStr_lit, IsSl_lit, cellN_lit, cellL_lit, Bool.not_eq_true', Bool.not_eq_false', Bool.not_true, Bool.not_false, Int.reduceLE, Int.reduceLT, Int.reduceNeg, Nat.le_refl, Int.le_refl, Nat.reduceLT, Nat.reduceLeDiff, Nat.reduceEqDiff, D.v.injEq, D.tup.injEq, D.agg.injEq, D.ro.injEq, List.cons.injEq, Value.int.injEq, Value.bool.injEq, pcond_true, pcond_false, NamelessL, Nameless, Nat.reduceMul, Nat.reduceAdd, Nat.zero_add, Int.toNat_natCast]
  refine pcond_intro (fun h => ?_) (fun h => ?_)
  · simp only [decide_eq_true_eq] at h
    have hxa : x < s.so.length := by omega
    have ga := srcsD_get s.so x hxa
    have ha := srcsD_length s.so
    have hc := nm_hdr _ _ _ (nmA3 s s.bu.length s.li.length hxa)
    have hn := nmM_nl (nmA s s.bu.length s.li.length (x + 1) 0)
    rw [hc] at hn
    simp only [Int.toNat_natCast, Nat.mul_one, ga, cellStr_lit, IsStr_lit, cellInt_lit, IsInt_lit, cellBool_lit, IsBool_lit, cellN_lit, cellL_lit, IsSl_lit, wrap_succ hxa hm, true_and, and_true, and_self]
    refine ⟨⟨by omega, by omega⟩, by omega, x + 1, [.old 0, .old 1, .old 2, .old 3, .sam 4], by omega, by omega, ⟨rfl, ⟨⟨rfl, nS⟩, ⟨rfl, trivial, trivial, trivial, trivial⟩, ⟨(congrArg (fun c => some (Blk.mk itTy c true)) hc).trans rfl, hn⟩, ⟨rfl, tkM_nl []⟩, ⟨rfl, rfl⟩, rfl⟩, ⟨trivial, rfl⟩, ⟨trivial, rfl⟩, ⟨trivial, rfl⟩, ⟨trivial, rfl⟩, ⟨trivial, rfl⟩, ⟨trivial, rfl⟩, trivial⟩⟩
  · simp only [decide_eq_false_iff_not] at h
    have e : x = s.so.length := by omega
    subst e
    exact ⟨(), [.old 0, .old 1, .old 2, .old 3, .sam 4], ⟨rfl, ⟨⟨rfl, nS⟩, ⟨rfl, trivial, trivial, trivial, trivial⟩, ⟨rfl, nmM_nl _⟩, ⟨rfl, tkM_nl []⟩, ⟨rfl, rfl⟩, rfl⟩, ⟨trivial, rfl⟩, ⟨trivial, rfl⟩, ⟨trivial, rfl⟩, trivial⟩⟩
def lp_ncL4 (s : Stn) : LoopO := loopRuleK (α := Nat) (β := Unit) 0 [.old 0, .old 1, .old 2, .old 3, .sam 4] (fun i => i ≤ s.ba.length) (fun i => [(1, .ptr 0 0), (2, .ptr 1 0), (3, .ptr 4 0), (53, .ro s.ba.length (baysD s.ba)), (54, d_i (s.ba.length : Int)), (55, d_i (i : Int))]) (fun i => d_ncH s (nmA s s.bu.length s.li.length s.so.length i)) (0) (fun _ => True) (fun _ => (.exit 6, [(1, .ptr 0 0), (2, .ptr 1 0), (3, .ptr 4 0)], d_ncH s (nmA s s.bu.length s.li.length s.so.length s.ba.length)))
theorem ncL4_rule (s : Stn) (hpre : okStn s) : LRuleK 0 Tryz.prog Tryz.f53.ntmps (loopAt ((Tryz.f53.body).getD .skip) 18) (lp_ncL4 s) := by
  refine lruleK_of (α := Nat) (β := Unit) (call := noCalls) (lp := fun _ => none) (N := 10) T_ok mixed noCalls_ok (fun i => s.ba.length - i) (by kernel_rfl) (LpAllK.none _) ?_
  intro x hJ
  refine of_eq (B := letI z12 := (D.v (Value.map (Option.none))); letI z15 := Value.bool Bool.false; letI z11 := (D.v (Value.int IntKind.i64 (1 : Int))); letI z23 := (List.length (Stn.bu s)); letI z24 := (List.length (Stn.li s)); letI z25 := (List.length (Stn.so s)); letI z0 := (List.cons z12 (List.cons (D.v z15) (List.cons (D.v z15) (List.cons z11 (List.cons z11 (List.cons (D.v (Value.string (ByteArray.mk (Array.mk ([] : List UInt8))))) (nmC (nmA s z23 z24 z25 x)))))))); letI z29 := ((x : Nat) : Int); letI z2 := ((Int.toNat z29) * (12 : Nat)); letI z45 := ((z2 + (1 : Nat)) + (1 : Nat)); letI z14 := (z45 + (1 : Nat)); letI z1 := ((z14 + (1 : Nat)) + (1 : Nat)); letI z3 := (baysD (Stn.ba s)); letI z28 := (1000000007 : Nat); letI z4 := (Option.some (Blk.mk z28 (List.cons z12 (List.cons (D.v z15) (List.cons (D.v z15) (List.cons z11 (List.cons z11 (List.cons (D.v (Value.int IntKind.i64 (0 : Int))) (tkC ([] : List Int)))))))) Bool.true)); letI z39 := (List.getD z3 z2 (Inhabited.default)); letI z5 := (D.v (Value.string (cellStr z39))); letI z43 := Value.string ByteArray.empty; letI z6 := (TI.mk TD.str (1 : Nat) (16 : Nat) [z43]); letI z36 := (Exit.exit (6 : Nat)); letI z16 := (Prod.mk (1 : Nat) (D.ptr (0 : Nat) (0 : Nat))); letI z17 := (Prod.mk (2 : Nat) (D.ptr (1 : Nat) (0 : Nat))); letI z18 := (Prod.mk (3 : Nat) (D.ptr (4 : Nat) (0 : Nat))); letI z9 := (List.length (Stn.ba s)); letI z7 := (Prod.mk z36 (Prod.mk [z16, z17, z18] (d_ncH s (nmA s z23 z24 z25 z9)))); letI z44 := ((z1 + (1 : Nat)) + (1 : Nat)); letI z8 := (z44 + (1 : Nat)); letI z10 := (Option.some (Blk.mk (27 : Nat) [(D.v (Value.string (Stn.n s))), (D.ro z23 (busesD (Stn.bu s))), (D.ro z24 (linesD (Stn.li s))), (D.ro z25 (srcsD (Stn.so s))), (D.ro z9 z3)] Bool.true)); letI z13 := (Option.some (Blk.mk (113 : Nat) [(D.ro z9 z3), (D.ifc z28 (D.ptr (2 : Nat) (0 : Nat))), (D.ifc z28 (D.ptr (3 : Nat) (0 : Nat)))] Bool.true)); letI z19 := (Option.some (Blk.mk (113 : Nat) [(D.v (Value.slice (Option.none) (0 : Nat) (0 : Nat))), z12, z12] Bool.true)); letI z20 := (List.getD z3 (z1 + (1 : Nat)) (Inhabited.default)); letI z21 := ((z8 + (1 : Nat)) + (1 : Nat)); letI z35 := (TI.mk TD.bool (1 : Nat) (1 : Nat) [z15]); letI z22 := (List.drop (List.length (hdrOf z6 z35)) z0); letI z26 := (List.getD z3 z45 (Inhabited.default)); letI z27 := (List.getD z3 z44 (Inhabited.default)); letI z30 := (List.getD z3 (z14 + (1 : Nat)) (Inhabited.default)); letI z31 := (List.getD z3 (z21 + (1 : Nat)) (Inhabited.default)); letI z32 := (List.getD z3 (z2 + (1 : Nat)) (Inhabited.default)); letI z33 := (List.getD z3 (z8 + (1 : Nat)) (Inhabited.default)); letI z34 := ((z9 : Nat) : Int); letI z37 := (List.getD z3 z14 (Inhabited.default)); letI z38 := (List.getD z3 z21 (Inhabited.default)); letI z40 := (List.getD z3 z1 (Inhabited.default)); letI z41 := (List.getD z3 z8 (Inhabited.default)); letI z42 := (Prod.mk (53 : Nat) (D.ro z9 z3)); letI z46 := (D.v (Value.bool Bool.true)); letI z47 := (List.length (TI.zero z6)); letI z48 := (List.drop (6 : Nat) z0); (True ∧ (pcond (Decidable.decide (z29 < z34)) ((((0 : Int) ≤ z29) ∧ (z29 < z34)) ∧ ((((z2 + (12 : Nat)) ≤ (List.length z3)) ∧ ((IsStr z39) ∧ ((IsInt IntKind.i64 z32) ∧ ((IsInt IntKind.i64 z26) ∧ ((IsInt IntKind.i64 z37) ∧ ((IsInt IntKind.i64 z30) ∧ ((IsInt IntKind.i64 z40) ∧ ((IsSl z20) ∧ ((IsBool z27) ∧ ((IsInt IntKind.i64 z41) ∧ ((IsInt IntKind.i64 z33) ∧ ((IsInt IntKind.i64 z38) ∧ ((IsInt IntKind.i64 z31) ∧ True))))))))))))) ∧ (True ∧ ((((12 : Nat) = (12 : Nat)) ∧ ((12 : Nat) ≤ (12 : Nat))) ∧ (True ∧ (((1 : Nat) < (3 : Nat)) ∧ (True ∧ ((((0 : Nat) < (12 : Nat)) ∧ (IsStr z5)) ∧ ((((IsStr z5) ∧ True) ∧ ((1 : Nat) = (1 : Nat))) ∧ (True ∧ (True ∧ (∃ (y : Nat), (∃ (kp : (List KE)), (((z9 - y) < (z9 - x)) ∧ ((y ≤ z9) ∧ (viewAllK (0 : Nat) kp [z16, z17, z18, z42, (Prod.mk (54 : Nat) (D.v (Value.int IntKind.i64 z34))), (Prod.mk (55 : Nat) (D.v (Value.int IntKind.i64 (IntKind.wrap IntKind.i64 (z29 + (1 : Int))))))] [z10, z19, (Option.some (Blk.mk z28 (List.cons z12 (List.cons (D.v z15) (List.cons (D.v z15) (List.cons z11 (List.cons z11 (List.cons (D.v z43) (List.append ([] : List D) (cond.match_1 (fun (c : Bool) => (List D)) (List.any (chunks (2 : Nat) (List.length z48) z48) (fun (e : (List D)) => (keyEq (TI.zero z6) [z5] e))) (fun (_ : Unit) => (List.flatMap (fun (e : (List D)) => (cond (keyEq (TI.zero z6) [z5] e) ((List.take z47 e) ++ [z46]) e)) (mEnts (z47 + (TI.size z35)) z22))) (fun (_ : Unit) => (z22 ++ ([z5] ++ [z46]))))))))))) Bool.true)), z4, z13, (Option.some (Blk.mk (72 : Nat) [z5, (D.v (Value.int IntKind.i64 (cellInt z32))), (D.v (Value.int IntKind.i64 (cellInt z26))), (D.v (Value.int IntKind.i64 (cellInt z37))), (D.v (Value.int IntKind.i64 (cellInt z30))), (D.v (Value.int IntKind.i64 (cellInt z40))), (D.ro (cellN z20) (cellL z20)), (D.v (Value.bool (cellBool z27))), (D.v (Value.int IntKind.i64 (cellInt z41))), (D.v (Value.int IntKind.i64 (cellInt z33))), (D.v (Value.int IntKind.i64 (cellInt z38))), (D.v (Value.int IntKind.i64 (cellInt z31)))] Bool.true))] [z16, z17, z18, z42, (Prod.mk (54 : Nat) (d_i z34)), (Prod.mk (55 : Nat) (d_i ((y : Nat) : Int)))] (d_ncH s (nmA s z23 z24 z25 y)))))))))))))))))) (∃ (r : Unit), (∃ (kp : (List KE)), (True ∧ ((z36 = z36) ∧ (viewAllK (0 : Nat) kp [z16, z17, z18] [z10, z19, (Option.some (Blk.mk z28 z0 Bool.true)), z4, z13] (Prod.fst (Prod.snd ((fun (x_1 : Unit) => z7) r))) (Prod.snd (Prod.snd ((fun (x_1 : Unit) => z7) r))))))))))) (by kernel_rfl) ?_
  have hm : s.ba.length ≤ 9223372036854775807 := (okStn_lens hpre).2.2.2
  have hx : x ≤ s.ba.length := hJ
  have nS : NamelessL (d_stnL s) := stnD_nl s
  simp only [true_and, and_true, and_self, IsInt_lit, IsBool_lit, IsStr_lit, IsSl_lit, cellN_lit, cellL_lit, Bool.not_eq_true', Bool.not_eq_false', Bool.not_true, Bool.not_false, Int.reduceLE, Int.reduceLT, Int.reduceNeg, Nat.le_refl, Int.le_refl, Nat.reduceLT, Nat.reduceLeDiff, Nat.reduceEqDiff, D.v.injEq, D.tup.injEq, D.agg.injEq, D.ro.injEq, List.cons.injEq, Value.int.injEq, Value.bool.injEq, pcond_true, pcond_false, NamelessL, Nameless, Nat.reduceMul, Nat.reduceAdd, Nat.zero_add, Int.toNat_natCast]
  refine pcond_intro (fun h => ?_) (fun h => ?_)
  · simp only [decide_eq_true_eq] at h
    have hxa : x < s.ba.length := by omega
    have ga := baysD_get s.ba x hxa
    have ha := baysD_length s.ba
    have hc := nm_hdr _ _ _ (nmA4 s s.bu.length s.li.length s.so.length hxa)
    have hn := nmM_nl (nmA s s.bu.length s.li.length s.so.length (x + 1))
    rw [hc] at hn
    simp only [Int.toNat_natCast, Nat.mul_one, ga, cellStr_lit, IsStr_lit, cellInt_lit, IsInt_lit, cellBool_lit, IsBool_lit, cellN_lit, cellL_lit, IsSl_lit, wrap_succ hxa hm, true_and, and_true, and_self]
    refine ⟨⟨by omega, by omega⟩, by omega, x + 1, [.old 0, .old 1, .old 2, .old 3, .sam 4], by omega, by omega, ⟨rfl, ⟨⟨rfl, nS⟩, ⟨rfl, trivial, trivial, trivial, trivial⟩, ⟨(congrArg (fun c => some (Blk.mk itTy c true)) hc).trans rfl, hn⟩, ⟨rfl, tkM_nl []⟩, ⟨rfl, rfl⟩, rfl⟩, ⟨trivial, rfl⟩, ⟨trivial, rfl⟩, ⟨trivial, rfl⟩, ⟨trivial, rfl⟩, ⟨trivial, rfl⟩, ⟨trivial, rfl⟩, trivial⟩⟩
  · simp only [decide_eq_false_iff_not] at h
    have e : x = s.ba.length := by omega
    subst e
    exact ⟨(), [.old 0, .old 1, .old 2, .old 3, .sam 4], ⟨rfl, ⟨⟨rfl, nS⟩, ⟨rfl, trivial, trivial, trivial, trivial⟩, ⟨rfl, nmM_nl _⟩, ⟨rfl, tkM_nl []⟩, ⟨rfl, rfl⟩, rfl⟩, ⟨trivial, rfl⟩, ⟨trivial, rfl⟩, ⟨trivial, rfl⟩, trivial⟩⟩
theorem p7new_call (s : Stn) (hpre : okStn s) : CallJ Tryz.prog 53 [.agg (d_stnL s)] ([]) (.agg (d_chk s.ba.length (baysD s.ba) 0 1)) ([d_nm (putL [] (namesS s)), d_tk []]) := by
  refine callJ_of_vck (k := 0) (call := noCalls) (lp := fun reg__ => bif Nat.beq reg__ 3 then some (lp_ncL1 s) else bif Nat.beq reg__ 8 then some (lp_ncL2 s) else bif Nat.beq reg__ 13 then some (lp_ncL3 s) else bif Nat.beq reg__ 18 then some (lp_ncL4 s) else none) (N := 10) T_ok mixed noCalls_ok Tryz.func53 rfl (by decide) (by kernel_rfl) (by kernel_rfl) rfl (of_eq (B := letI z0 := ((Tryz.f53.body).getD .skip); LRuleK 0 Tryz.prog Tryz.f53.ntmps (loopAt z0 3) (lp_ncL1 s) ∧ LRuleK 0 Tryz.prog Tryz.f53.ntmps (loopAt z0 8) (lp_ncL2 s) ∧ LRuleK 0 Tryz.prog Tryz.f53.ntmps (loopAt z0 13) (lp_ncL3 s) ∧ LRuleK 0 Tryz.prog Tryz.f53.ntmps (loopAt z0 18) (lp_ncL4 s) ∧ True) (by kernel_rfl) ⟨ncL1_rule s hpre, ⟨ncL2_rule s hpre, ⟨ncL3_rule s hpre, ⟨ncL4_rule s hpre, trivial⟩⟩⟩⟩) ?_
  refine of_eq (B := letI z7 := (D.v (Value.map (Option.none))); letI z5 := (D.v (Value.bool Bool.false)); letI z4 := (D.v (Value.int IntKind.i64 (1 : Int))); letI z10 := (D.v (Value.int IntKind.i64 (0 : Int))); letI z0 := (List.cons z7 (List.cons z5 (List.cons z5 (List.cons z4 (List.cons z4 (List.cons z10 (tkC ([] : List Int)))))))); letI z45 := (D.v (Value.string (Stn.n s))); letI z16 := (List.length (Stn.bu s)); letI z27 := (D.ro z16 (busesD (Stn.bu s))); letI z21 := (List.length (Stn.li s)); letI z28 := (D.ro z21 (linesD (Stn.li s))); letI z22 := (List.length (Stn.so s)); letI z29 := (D.ro z22 (srcsD (Stn.so s))); letI z24 := (List.length (Stn.ba s)); letI z15 := (D.ro z24 (baysD (Stn.ba s))); letI z8 := (Option.some (Blk.mk (27 : Nat) [z45, z27, z28, z29, z15] Bool.true)); letI z1 := ((z8 = z8) ∧ (NamelessL [z45, z27, z28, z29, z15])); letI z17 := (1000000007 : Nat); letI z41 := (D.ifc z17 (D.ptr (2 : Nat) (0 : Nat))); letI z42 := (D.ifc z17 (D.ptr (3 : Nat) (0 : Nat))); letI z2 := (Option.some (Blk.mk (113 : Nat) [z15, z41, z42] Bool.true)); letI z33 := (D.v (Value.slice (Option.none) (0 : Nat) (0 : Nat))); letI z25 := (Option.some (Blk.mk (113 : Nat) [z33, z7, z7] Bool.true)); letI z3 := ((z25 = z25) ∧ (NamelessL [z33, z7, z7])); letI z6 := (D.v (Value.string (ByteArray.mk (Array.mk ([] : List UInt8))))); letI z9 := (List.cons z7 (List.cons z5 (List.cons z5 (List.cons z4 (List.cons z4 (List.cons z6 (nmC (nmA s z16 z21 z22 (0 : Nat))))))))); letI z11 := (Option.some (Blk.mk z17 z0 Bool.true)); letI z12 := (List.cons z7 (List.cons z5 (List.cons z5 (List.cons z4 (List.cons z4 (List.cons z6 (nmC (nmA s z16 z21 (0 : Nat) (0 : Nat))))))))); letI z13 := (List.cons z7 (List.cons z5 (List.cons z5 (List.cons z4 (List.cons z4 (List.cons z6 (nmC (nmA s z16 (0 : Nat) (0 : Nat) (0 : Nat))))))))); letI z14 := (kO [(KE.old (0 : Nat)), (KE.old (1 : Nat)), (KE.old (2 : Nat)), (KE.old (3 : Nat)), (KE.sam (4 : Nat))]); letI z46 := (D.ptr (0 : Nat) (0 : Nat)); letI z18 := (True ∧ (z46 = z46)); letI z47 := (D.ptr (1 : Nat) (0 : Nat)); letI z19 := (True ∧ (z47 = z47)); letI z48 := (D.ptr (4 : Nat) (0 : Nat)); letI z20 := (True ∧ (z48 = z48)); letI z49 := ([] : List (Option Blk)); letI z23 := (z49 = z49); letI z26 := ((True ∧ (z10 = z10)) ∧ True); letI z30 := ((3 : Nat) ≤ (3 : Nat)); letI z31 := Bool.true = Bool.true; letI z32 := ((z11 = z11) ∧ (NamelessL z0)); letI z34 := (D.v (Value.int IntKind.i64 ((z16 : Nat) : Int))); letI z35 := (D.v (Value.int IntKind.i64 ((z21 : Nat) : Int))); letI z36 := (D.v (Value.int IntKind.i64 ((z22 : Nat) : Int))); letI z37 := (D.v (Value.int IntKind.i64 ((z24 : Nat) : Int))); letI z38 := (Option.some (Blk.mk z17 z13 Bool.true)); letI z39 := (Option.some (Blk.mk z17 z12 Bool.true)); letI z40 := (Option.some (Blk.mk z17 z9 Bool.true)); letI z43 := (D.v (Value.string ByteArray.empty)); letI z44 := (((3 : Nat) = (3 : Nat)) ∧ z30); letI z50 := ((4 : Nat) < (5 : Nat)); (True ∧ (True ∧ (True ∧ (z50 ∧ (True ∧ (True ∧ (True ∧ (True ∧ (z44 ∧ (True ∧ (((1 : Nat) < (5 : Nat)) ∧ (True ∧ (True ∧ (((0 : Nat) ≤ z16) ∧ ((z31 ∧ ((z1 ∧ (z3 ∧ ((((Option.some (Blk.mk z17 (List.cons z7 (List.cons z5 (List.cons z5 (List.cons z4 (List.cons z4 (List.cons z6 (nmC (nmA s (0 : Nat) (0 : Nat) (0 : Nat) (0 : Nat))))))))) Bool.true)) = (Option.some (Blk.mk z17 [z7, z5, z5, z4, z4, z43] Bool.true))) ∧ (NamelessL [z7, z5, z5, z4, z4, z43])) ∧ (((z11 = (Option.some (Blk.mk z17 [z7, z5, z5, z4, z4, z10] Bool.true))) ∧ (NamelessL [z7, z5, z5, z4, z4, z10])) ∧ (((z2 = z2) ∧ ((List.all [(2 : Nat), (3 : Nat)] (fun (c : Nat) => (firstK.match_1 (fun (x : (Option Nat)) => Bool) (idxOf z14 c) (fun (i : Nat) => (Nat.beq i c)) (fun (_ : Unit) => Bool.false)))) = Bool.true)) ∧ z23))))) ∧ (z18 ∧ (z19 ∧ (z20 ∧ ((True ∧ (z27 = z27)) ∧ ((True ∧ (z34 = z34)) ∧ z26))))))) ∧ (Unit → (True → (True ∧ (((2 : Nat) < (5 : Nat)) ∧ (True ∧ (True ∧ (((0 : Nat) ≤ z21) ∧ ((z31 ∧ ((z1 ∧ (z3 ∧ (((z38 = z38) ∧ (NamelessL z13)) ∧ (z32 ∧ (((z2 = z2) ∧ ((List.all [(2 : Nat), (3 : Nat)] (fun (c : Nat) => (firstK.match_1 (fun (x : (Option Nat)) => Bool) (idxOf z14 c) (fun (i : Nat) => (Nat.beq i c)) (fun (_ : Unit) => Bool.false)))) = Bool.true)) ∧ z23))))) ∧ (z18 ∧ (z19 ∧ (z20 ∧ ((True ∧ (z28 = z28)) ∧ ((True ∧ (z35 = z35)) ∧ z26))))))) ∧ (Unit → (True → (True ∧ (((3 : Nat) < (5 : Nat)) ∧ (True ∧ (True ∧ (((0 : Nat) ≤ z22) ∧ ((z31 ∧ ((z1 ∧ (z3 ∧ (((z39 = z39) ∧ (NamelessL z12)) ∧ (z32 ∧ (((z2 = z2) ∧ ((List.all [(2 : Nat), (3 : Nat)] (fun (c : Nat) => (firstK.match_1 (fun (x : (Option Nat)) => Bool) (idxOf z14 c) (fun (i : Nat) => (Nat.beq i c)) (fun (_ : Unit) => Bool.false)))) = Bool.true)) ∧ z23))))) ∧ (z18 ∧ (z19 ∧ (z20 ∧ ((True ∧ (z29 = z29)) ∧ ((True ∧ (z36 = z36)) ∧ z26))))))) ∧ (Unit → (True → (True ∧ (z50 ∧ (True ∧ (True ∧ (((0 : Nat) ≤ z24) ∧ ((z31 ∧ ((z1 ∧ (z3 ∧ (((z40 = z40) ∧ (NamelessL z9)) ∧ (z32 ∧ (((z2 = z2) ∧ ((List.all [(2 : Nat), (3 : Nat)] (fun (c : Nat) => (firstK.match_1 (fun (x : (Option Nat)) => Bool) (idxOf z14 c) (fun (i : Nat) => (Nat.beq i c)) (fun (_ : Unit) => Bool.false)))) = Bool.true)) ∧ z23))))) ∧ (z18 ∧ (z19 ∧ (z20 ∧ ((True ∧ (z15 = z15)) ∧ ((True ∧ (z37 = z37)) ∧ z26))))))) ∧ (Unit → (True → (z30 ∧ (z44 ∧ ((z30 ∧ True) ∧ (∃ (kp : (List KE)), (viewFin (0 : Nat) kp [z8, z2, (Option.some (Blk.mk z17 (List.cons z7 (List.cons z5 (List.cons z5 (List.cons z4 (List.cons z4 (List.cons z6 (nmC (nmA s z16 z21 z22 z24)))))))) Bool.true)), z11, z2] (D.agg [z15, z41, z42]) (D.agg (d_chk z24 (baysD (Stn.ba s)) (0 : Nat) (1 : Nat))) [(d_nm (putL ([] : List ByteArray) (namesS s))), (d_tk ([] : List Int))]))))))))))))))))))))))))))))))))))))))))))))))) (by kernel_rfl) ?_
  have nA : NamelessL (busesD s.bu) ∧ NamelessL (linesD s.li) ∧ NamelessL (srcsD s.so) ∧ NamelessL (baysD s.ba) := ⟨busesD_nl s.bu, linesD_nl s.li, srcsD_nl s.so, baysD_nl s.ba⟩
  simp only [true_and, and_true, and_self, IsInt_lit, IsBool_lit, IsStr_lit, IsSl_lit, cellN_lit, cellL_lit, Bool.not_eq_true', Bool.not_eq_false', Bool.not_true, Bool.not_false, Int.reduceLE, Int.reduceLT, Int.reduceNeg, Nat.le_refl, Int.le_refl, Nat.reduceLT, Nat.reduceLeDiff, Nat.reduceEqDiff, D.v.injEq, D.tup.injEq, D.agg.injEq, D.ro.injEq, List.cons.injEq, Value.int.injEq, Value.bool.injEq, pcond_true, pcond_false, NamelessL, Nameless, Nat.reduceMul, Nat.reduceAdd, Nat.zero_add, Int.toNat_natCast]
  exact ⟨Nat.zero_le _, ⟨nA, rfl, rfl, rfl⟩, fun _ _ => ⟨Nat.zero_le _, ⟨nA, nmC_nl _, tkC_nl [], rfl⟩, fun _ _ => ⟨Nat.zero_le _, ⟨nA, nmC_nl _, tkC_nl [], rfl⟩, fun _ _ => ⟨Nat.zero_le _, ⟨nA, nmC_nl _, tkC_nl [], rfl⟩, fun _ _ => ⟨[.old 2, .old 3], rfl, ⟨⟨rfl, nmM_nl _⟩, ⟨rfl, tkM_nl _⟩, rfl⟩, ⟨⟨trivial, trivial, trivial, trivial⟩, rfl⟩⟩⟩⟩⟩⟩
def entf_p7new : EntF := fun ds H => match ds with
  | [.agg [.v (.string n), .ro nb xb, .ro nl xl, .ro ns xs, .ro ny xy]] =>
    some (.agg (d_chk ny xy H.length (H.length + 1)), [], [], [d_nm (putL [] (namesS ⟨n, unBus xb, unLin xl, unSrc xs, unBay xy⟩)), d_tk []], StnOk ⟨n, unBus xb, unLin xl, unSrc xs, unBay xy⟩ nb nl ns ny xb xl xs xy)
  | _ => none
theorem rn_nm (g : Nat → Nat) (l : List ByteArray) : (d_nm l).map (rnB g) = d_nm l := by
  rw [show d_nm l = some ⟨itTy, nmM l, true⟩ from rfl]; simp only [Option.map_some, rnB, rnL_nl _ _ (nmM_nl _)]
theorem rn_tk (g : Nat → Nat) (l : List Int) : (d_tk l).map (rnB g) = d_tk l := by
  rw [show d_tk l = some ⟨itTy, tkM l, true⟩ from rfl]; simp only [Option.map_some, rnB, rnL_nl _ _ (tkM_nl _)]
theorem entf_p7new_ok : EntFOk Tryz.prog 53 entf_p7new := by
  intro ds H d ups rs L p hd hc H1 heq hl; unfold entf_p7new at hd; split at hd
  · rename_i n nb xb nl xl ns xs ny xy
    injection hd with hd
    simp only [Prod.mk.injEq] at hd
    obtain ⟨rfl, rfl, rfl, rfl, rfl⟩ := hd
    obtain ⟨⟨⟨⟨a1, a2⟩, -⟩, ⟨⟨b1, b2⟩, -⟩, ⟨⟨c1, c2⟩, -⟩, ⟨⟨d1, d2⟩, -⟩⟩, ho⟩ := hc
    generalize unBus xb = u1 at *
    generalize unLin xl = u2 at *
    generalize unSrc xs = u3 at *
    generalize unBay xy = u4 at *
    subst a1; subst a2; subst b1; subst b2; subst c1; subst c2; subst d1; subst d2
    have hnl : NamelessL [D.agg (d_stnL ⟨n, u1, u2, u3, u4⟩)] := ⟨stnD_nl _, trivial⟩
    have key := (p7new_call ⟨n, u1, u2, u3, u4⟩ ho).frames (σ := []) (B := H1) rfl List.nodup_nil (by simp) (fun i blk h => by simp at h) (by rw [namesL_nl _ hnl]; simp)
    have e : rnD (gOf [] H1.length) (.agg (d_chk u4.length (baysD u4) 0 1)) = .agg (d_chk u4.length (baysD u4) H.length (H.length + 1)) := by simp only [d_chk, rnD, rnL, gOf, List.length_nil, Nat.not_lt_zero, if_false, Nat.sub_zero, Nat.add_zero, hl, rnL_nl _ _ (baysD_nl u4)]
    rw [e, rnL_nl _ _ hnl] at key
    simp only [frH, setAt, List.length_nil, List.drop_zero, List.map_cons, List.map_nil, rn_nm, rn_tk] at key
    exact key
  · cases hd
end Go.Proofs.YtfleadelfklenaaGreatDoor
end
section
namespace Go.Proofs.YtfleadelfklenaaGreatDoor
open Go.VD
set_option linter.unusedVariables false
set_option linter.unusedSimpArgs false
set_option maxRecDepth 100000
def nmR (s : Stn) (l : List Rly) (i : Nat) : List ByteArray := putL [] (namesS s) ++ (l.take i).map Rly.n
def tkR (l : List Rly) (i : Nat) : List Int := (l.take i).map Rly.bay
theorem hasI_tkn (l : List Rly) (b : Int) : hasI (l.map Rly.bay) b = tknB l b := by rw [tknB_any]; rfl
theorem rest_eq (r : Rly) : restE r = bif frnB r then 12 else bif !numsOk r then 2 else bif misB r then 11 else bif manB r then 3 else orE (rulsE r) (lstE r) := by
  unfold restE lstE
  cases frnB r with
  | true => rfl
  | false =>
    cases numsOk r with
    | false => rfl
    | true =>
      cases misB r with
      | true => rfl
      | false =>
        cases manB r with
        | true => rfl
        | false => rfl
theorem plc_eq (ba : List Bay) (l : List Rly) (r : Rly) : cbE ba (l.map Rly.bay) r = plcR ba l r.kind r.bay := by
  unfold cbE plcR kOk fitB; rw [hasI_tkn]
theorem ad_one (s : Stn) (l : List Rly) (i : Nat) (r : Rly) : adE s.ba (nmR s l i) (tkR l i) r = oneE s (l.take i) r := by
  unfold adE oneE nmR tkR cnE
  rw [plc_eq, rest_eq, hasN_app, hasN_putL]
  cases nameS r.n with
  | false => rfl
  | true =>
    simp only [cond_true, show hasN [] r.n = false from rfl, Bool.false_or]
    cases (hasN (namesS s) r.n || hasN ((l.take i).map Rly.n) r.n) with
    | true => rfl
    | false => rfl
theorem ad_next (s : Stn) (l : List Rly) {i : Nat} (hi : i < l.length) (h : oneE s (l.take i) (l.getD i default) = 0) : cnS (nmR s l i) (l.getD i default) = nmR s l (i + 1) ∧ adS s.ba (nmR s l i) (tkR l i) (l.getD i default) = tkR l (i + 1) := by
  rw [← ad_one] at h
  unfold adE at h
  obtain ⟨h1, h2⟩ := orE_eq0 h
  obtain ⟨h2, h3⟩ := orE_eq0 h2
  have e1 : nmR s l (i + 1) = nmR s l i ++ [(l.getD i default).n] := by unfold nmR; rw [take_next _ _ _ hi, List.append_assoc]
  have e2 : tkR l (i + 1) = tkR l i ++ [(l.getD i default).bay] := by
    unfold tkR
    rw [List.take_add_one, List.map_append, List.getElem?_eq_getElem hi]
    simp [List.getD_eq_getElem?_getD, List.getElem?_eq_getElem hi]
  unfold adS
  rw [h1, e1, e2]
  constructor
  · unfold cnE at h1
    unfold cnS
    cases hn : nameS (l.getD i default).n with
    | false => rw [hn] at h1; simp at h1
    | true =>
      rw [hn] at h1
      cases hh : hasN (nmR s l i) (l.getD i default).n with
      | true => rw [hh] at h1; simp at h1
      | false => simp only [cond_true]; exact hasN_put hh
  · unfold cbE at h2
    unfold cbS
    simp only [beq_self_eq_true, cond_true]
    cases hk : kOk (l.getD i default).kind with
    | false => rw [hk] at h2; simp at h2
    | true =>
      rw [hk] at h2
      cases hf : fitB s.ba (l.getD i default).kind (l.getD i default).bay with
      | false => rw [hf] at h2; simp at h2
      | true =>
        rw [hf] at h2
        cases hh : hasI (tkR l i) (l.getD i default).bay with
        | true => rw [hh] at h2; simp at h2
        | false => simp only [Bool.and_self, cond_true]; unfold putI; rw [hh]; rfl
def d_ckH (s : Stn) (l : List Rly) (i : Nat) : Heap := [some ⟨27, d_stnL s, true⟩, d_nm (nmR s l i), d_tk (tkR l i), some ⟨113, d_chk s.ba.length (baysD s.ba) 1 2, true⟩]
def RlysOk (m : Nat) (xr : List D) : Prop := (m = (unRly m xr).length ∧ xr = rlysD (unRly m xr)) ∧ okRlys (unRly m xr)
theorem RlysOk_lit (l : List Rly) : RlysOk l.length (rlysD l) = okRlys l := by unfold RlysOk; rw [unRly_D]; simp
def lp_ckL (s : Stn) (l : List Rly) : LoopO := loopRuleK2 (α := Nat) (β := Unit) (γ := Nat × Int) 0 [.old 0, .old 1, .old 2, .sam 3] (fun i => i ≤ l.length ∧ ∀ j, j < i → rlyE s l j = 0) (fun i => [(6, .ptr 3 0), (12, .ro l.length (rlysD l)), (13, d_i (l.length : Int)), (14, d_i (i : Int))]) (fun i => d_ckH s l i) (0) (fun _ => chkA s l = 0 ∧ chkR s l = 0) (fun _ => (.exit 0, [], [])) (fun p => chkA s l = p.1 ∧ chkR s l = p.2) (fun p => (.ret, [(4, d_i (p.1 : Int)), (5, d_i p.2)], []))
theorem ckL_rule (s : Stn) (l : List Rly) (hpre : okStn s ∧ okRlys l) : LRuleK 0 Tryz.prog Tryz.f21.ntmps (loopAt ((Tryz.f21.body).getD .skip) 3) (lp_ckL s l) := by
  refine lruleK2_of (α := Nat) (β := Unit) (γ := Nat × Int) (call := (addF 54 (entf_p7add) noCalls)) (lp := fun _ => none) (N := 10) T_ok mixed (addF_ok (entf_p7add_ok) noCalls_ok) (fun i => l.length - i) (by kernel_rfl) (LpAllK.none _) ?_
  intro x hJ
  refine of_eq (B := letI z79 := ((x : Nat) : Int); letI z125 := ((Int.toNat z79) * (53 : Nat)); letI z30 := (List.getD (rlysD l) z125 (Inhabited.default)); letI z102 := (D.v (Value.string (cellStr z30))); letI z12 := (z125 + (1 : Nat)); letI z135 := (List.getD (rlysD l) z12 (Inhabited.default)); letI z65 := (D.v (Value.int IntKind.i64 (cellInt z135))); letI z110 := (z12 + (1 : Nat)); letI z134 := (List.getD (rlysD l) z110 (Inhabited.default)); letI z51 := (D.v (Value.int IntKind.i64 (cellInt z134))); letI z161 := (z110 + (1 : Nat)); letI z49 := (List.getD (rlysD l) z161 (Inhabited.default)); letI z105 := (D.v (Value.bool (cellBool z49))); letI z27 := (List.getD (rlysD l) (z161 + (1 : Nat)) (Inhabited.default)); letI z106 := (D.v (Value.bool (cellBool z27))); letI z6 := ((z161 + (1 : Nat)) + (1 : Nat)); letI z150 := (List.getD (rlysD l) z6 (Inhabited.default)); letI z70 := (D.v (Value.int IntKind.i64 (cellInt z150))); letI z118 := (List.getD (rlysD l) (z6 + (1 : Nat)) (Inhabited.default)); letI z56 := (D.v (Value.int IntKind.i64 (cellInt z118))); letI z85 := ((z6 + (1 : Nat)) + (1 : Nat)); letI z136 := (List.getD (rlysD l) z85 (Inhabited.default)); letI z43 := (D.v (Value.int IntKind.i64 (cellInt z136))); letI z31 := (List.getD (rlysD l) (z85 + (1 : Nat)) (Inhabited.default)); letI z91 := (D.v (Value.int IntKind.i64 (cellInt z31))); letI z17 := ((z85 + (1 : Nat)) + (1 : Nat)); letI z137 := (List.getD (rlysD l) z17 (Inhabited.default)); letI z76 := (D.v (Value.bool (cellBool z137))); letI z164 := (z17 + (1 : Nat)); letI z111 := (List.getD (rlysD l) z164 (Inhabited.default)); letI z62 := (D.v (Value.bool (cellBool z111))); letI z97 := (List.getD (rlysD l) (z164 + (1 : Nat)) (Inhabited.default)); letI z38 := (D.v (Value.int IntKind.i64 (cellInt z97))); letI z3 := ((z164 + (1 : Nat)) + (1 : Nat)); letI z151 := (List.getD (rlysD l) z3 (Inhabited.default)); letI z71 := (D.v (Value.int IntKind.i64 (cellInt z151))); letI z119 := (List.getD (rlysD l) (z3 + (1 : Nat)) (Inhabited.default)); letI z57 := (D.v (Value.int IntKind.i64 (cellInt z119))); letI z86 := ((z3 + (1 : Nat)) + (1 : Nat)); letI z138 := (List.getD (rlysD l) z86 (Inhabited.default)); letI z44 := (D.v (Value.int IntKind.i64 (cellInt z138))); letI z32 := (List.getD (rlysD l) (z86 + (1 : Nat)) (Inhabited.default)); letI z107 := (D.v (Value.bool (cellBool z32))); letI z13 := ((z86 + (1 : Nat)) + (1 : Nat)); letI z139 := (List.getD (rlysD l) z13 (Inhabited.default)); letI z77 := (D.v (Value.bool (cellBool z139))); letI z112 := (List.getD (rlysD l) (z13 + (1 : Nat)) (Inhabited.default)); letI z52 := (D.v (Value.int IntKind.i64 (cellInt z112))); letI z82 := ((z13 + (1 : Nat)) + (1 : Nat)); letI z140 := (List.getD (rlysD l) z82 (Inhabited.default)); letI z39 := (D.v (Value.int IntKind.i64 (cellInt z140))); letI z28 := (List.getD (rlysD l) (z82 + (1 : Nat)) (Inhabited.default)); letI z92 := (D.v (Value.int IntKind.i64 (cellInt z28))); letI z7 := ((z82 + (1 : Nat)) + (1 : Nat)); letI z152 := (List.getD (rlysD l) z7 (Inhabited.default)); letI z72 := (D.v (Value.int IntKind.i64 (cellInt z152))); letI z120 := (List.getD (rlysD l) (z7 + (1 : Nat)) (Inhabited.default)); letI z58 := (D.v (Value.int IntKind.i64 (cellInt z120))); letI z87 := ((z7 + (1 : Nat)) + (1 : Nat)); letI z141 := (List.getD (rlysD l) z87 (Inhabited.default)); letI z45 := (D.v (Value.int IntKind.i64 (cellInt z141))); letI z33 := (List.getD (rlysD l) (z87 + (1 : Nat)) (Inhabited.default)); letI z93 := (D.v (Value.int IntKind.i64 (cellInt z33))); letI z18 := ((z87 + (1 : Nat)) + (1 : Nat)); letI z142 := (List.getD (rlysD l) z18 (Inhabited.default)); letI z66 := (D.v (Value.int IntKind.i64 (cellInt z142))); letI z163 := (z18 + (1 : Nat)); letI z113 := (List.getD (rlysD l) z163 (Inhabited.default)); letI z53 := (D.v (Value.int IntKind.i64 (cellInt z113))); letI z98 := (List.getD (rlysD l) (z163 + (1 : Nat)) (Inhabited.default)); letI z40 := (D.v (Value.int IntKind.i64 (cellInt z98))); letI z1 := ((z163 + (1 : Nat)) + (1 : Nat)); letI z153 := (List.getD (rlysD l) z1 (Inhabited.default)); letI z78 := (D.v (Value.bool (cellBool z153))); letI z121 := (List.getD (rlysD l) (z1 + (1 : Nat)) (Inhabited.default)); letI z59 := (D.v (Value.int IntKind.i64 (cellInt z121))); letI z88 := ((z1 + (1 : Nat)) + (1 : Nat)); letI z143 := (List.getD (rlysD l) z88 (Inhabited.default)); letI z46 := (D.v (Value.int IntKind.i64 (cellInt z143))); letI z34 := (List.getD (rlysD l) (z88 + (1 : Nat)) (Inhabited.default)); letI z108 := (D.v (Value.bool (cellBool z34))); letI z19 := ((z88 + (1 : Nat)) + (1 : Nat)); letI z144 := (List.getD (rlysD l) z19 (Inhabited.default)); letI z67 := (D.v (Value.int IntKind.i64 (cellInt z144))); letI z167 := (z19 + (1 : Nat)); letI z114 := (List.getD (rlysD l) z167 (Inhabited.default)); letI z54 := (D.v (Value.int IntKind.i64 (cellInt z114))); letI z50 := (List.getD (rlysD l) (z167 + (1 : Nat)) (Inhabited.default)); letI z109 := (D.v (Value.bool (cellBool z50))); letI z9 := ((z167 + (1 : Nat)) + (1 : Nat)); letI z154 := (List.getD (rlysD l) z9 (Inhabited.default)); letI z73 := (D.v (Value.int IntKind.i64 (cellInt z154))); letI z122 := (List.getD (rlysD l) (z9 + (1 : Nat)) (Inhabited.default)); letI z60 := (D.v (Value.int IntKind.i64 (cellInt z122))); letI z89 := ((z9 + (1 : Nat)) + (1 : Nat)); letI z145 := (List.getD (rlysD l) z89 (Inhabited.default)); letI z47 := (D.v (Value.int IntKind.i64 (cellInt z145))); letI z35 := (List.getD (rlysD l) (z89 + (1 : Nat)) (Inhabited.default)); letI z94 := (D.v (Value.int IntKind.i64 (cellInt z35))); letI z20 := ((z89 + (1 : Nat)) + (1 : Nat)); letI z146 := (List.getD (rlysD l) z20 (Inhabited.default)); letI z68 := (D.v (Value.int IntKind.i64 (cellInt z146))); letI z165 := (z20 + (1 : Nat)); letI z115 := (List.getD (rlysD l) z165 (Inhabited.default)); letI z63 := (D.v (Value.bool (cellBool z115))); letI z99 := (List.getD (rlysD l) (z165 + (1 : Nat)) (Inhabited.default)); letI z41 := (D.v (Value.int IntKind.i64 (cellInt z99))); letI z4 := ((z165 + (1 : Nat)) + (1 : Nat)); letI z155 := (List.getD (rlysD l) z4 (Inhabited.default)); letI z74 := (D.v (Value.int IntKind.i64 (cellInt z155))); letI z123 := (List.getD (rlysD l) (z4 + (1 : Nat)) (Inhabited.default)); letI z64 := (D.v (Value.bool (cellBool z123))); letI z90 := ((z4 + (1 : Nat)) + (1 : Nat)); letI z147 := (List.getD (rlysD l) z90 (Inhabited.default)); letI z48 := (D.v (Value.int IntKind.i64 (cellInt z147))); letI z36 := (List.getD (rlysD l) (z90 + (1 : Nat)) (Inhabited.default)); letI z95 := (D.v (Value.int IntKind.i64 (cellInt z36))); letI z21 := ((z90 + (1 : Nat)) + (1 : Nat)); letI z148 := (List.getD (rlysD l) z21 (Inhabited.default)); letI z69 := (D.v (Value.int IntKind.i64 (cellInt z148))); letI z166 := (z21 + (1 : Nat)); letI z116 := (List.getD (rlysD l) z166 (Inhabited.default)); letI z55 := (D.v (Value.int IntKind.i64 (cellInt z116))); letI z100 := (List.getD (rlysD l) (z166 + (1 : Nat)) (Inhabited.default)); letI z42 := (D.v (Value.int IntKind.i64 (cellInt z100))); letI z8 := ((z166 + (1 : Nat)) + (1 : Nat)); letI z156 := (List.getD (rlysD l) z8 (Inhabited.default)); letI z75 := (D.v (Value.int IntKind.i64 (cellInt z156))); letI z25 := (List.getD (rlysD l) (z8 + (1 : Nat)) (Inhabited.default)); letI z126 := (D.ro (cellN z25) (cellL z25)); letI z130 := ((z8 + (1 : Nat)) + (1 : Nat)); letI z24 := (List.getD (rlysD l) z130 (Inhabited.default)); letI z127 := (D.ro (cellN z24) (cellL z24)); letI z23 := (List.getD (rlysD l) (z130 + (1 : Nat)) (Inhabited.default)); letI z128 := (D.ro (cellN z23) (cellL z23)); letI z22 := (List.getD (rlysD l) ((z130 + (1 : Nat)) + (1 : Nat)) (Inhabited.default)); letI z129 := (D.ro (cellN z22) (cellL z22)); letI z0 := (mkR [z102, z65, z51, z105, z106, z70, z56, z43, z91, z76, z62, z38, z71, z57, z44, z107, z77, z52, z39, z92, z72, z58, z45, z93, z66, z53, z40, z78, z59, z46, z108, z67, z54, z109, z73, z60, z47, z94, z68, z63, z41, z74, z64, z48, z95, z69, z55, z42, z75, z126, z127, z128, z129]); letI z2 := (Option.some (Blk.mk (55 : Nat) [z102, z65, z51, z105, z106, z70, z56, z43, z91, z76, z62, z38, z71, z57, z44, z107, z77, z52, z39, z92, z72, z58, z45, z93, z66, z53, z40, z78, z59, z46, z108, z67, z54, z109, z73, z60, z47, z94, z68, z63, z41, z74, z64, z48, z95, z69, z55, z42, z75, z126, z127, z128, z129] Bool.true)); letI z84 := (D.v (Value.map (Option.none))); letI z61 := (D.v (Value.bool Bool.false)); letI z29 := (D.v (Value.int IntKind.i64 (1 : Int))); letI z103 := (D.v (Value.string (ByteArray.mk (Array.mk ([] : List UInt8))))); letI z5 := (List.cons z84 (List.cons z61 (List.cons z61 (List.cons z29 (List.cons z29 (List.cons z103 (nmC (nmR s l x)))))))); letI z160 := (D.v (Value.int IntKind.i64 (0 : Int))); letI z10 := (List.cons z84 (List.cons z61 (List.cons z61 (List.cons z29 (List.cons z29 (List.cons z160 (tkC (tkR l x)))))))); letI z149 := (List.length (Stn.ba s)); letI z104 := (baysD (Stn.ba s)); letI z11 := (Option.some (Blk.mk (27 : Nat) [(D.v (Value.string (Stn.n s))), (D.ro (List.length (Stn.bu s)) (busesD (Stn.bu s))), (D.ro (List.length (Stn.li s)) (linesD (Stn.li s))), (D.ro (List.length (Stn.so s)) (srcsD (Stn.so s))), (D.ro z149 z104)] Bool.true)); letI z37 := (1000000007 : Nat); letI z117 := (unNm (List.drop (6 : Nat) z5)); letI z162 := (unTk (List.drop (6 : Nat) z10)); letI z14 := (Option.some (Blk.mk z37 (List.cons z84 (List.cons z61 (List.cons z61 (List.cons z29 (List.cons z29 (List.cons z160 (tkC (adS (unBay z104) z117 z162 z0)))))))) Bool.true)); letI z15 := (Option.some (Blk.mk (113 : Nat) [(D.ro z149 z104), (D.ifc z37 (D.ptr (1 : Nat) (0 : Nat))), (D.ifc z37 (D.ptr (2 : Nat) (0 : Nat)))] Bool.true)); letI z16 := (Option.some (Blk.mk z37 (List.cons z84 (List.cons z61 (List.cons z61 (List.cons z29 (List.cons z29 (List.cons z103 (nmC (cnS z117 z0)))))))) Bool.true)); letI z96 := (Exit.exit (0 : Nat)); letI z101 := ([] : List (Prod Nat D)); letI z83 := ([] : List (Option Blk)); letI z26 := (Prod.mk z96 (Prod.mk z101 z83)); letI z80 := (adE (unBay z104) z117 z162 z0); letI z81 := List.length l; letI z124 := Prod Nat Int; letI z131 := (((chkA s l) = (0 : Nat)) ∧ ((chkR s l) = (0 : Int))); letI z132 := ((z81 : Nat) : Int); letI z133 := (Prod.mk (6 : Nat) (D.ptr (3 : Nat) (0 : Nat))); letI z157 := (Prod.mk (12 : Nat) (D.ro z81 (rlysD l))); letI z158 := (Option.some (Blk.mk z37 z10 Bool.true)); letI z159 := (Option.some (Blk.mk z37 z5 Bool.true)); letI z168 := ((z37 = z37) ∧ (z37 = z37)); letI z169 := ((53 : Nat) ≤ (53 : Nat)); (True ∧ (pcond (Decidable.decide (z79 < z132)) (True ∧ ((((0 : Int) ≤ z79) ∧ (z79 < z132)) ∧ ((((z125 + (53 : Nat)) ≤ (List.length (rlysD l))) ∧ ((IsStr z30) ∧ ((IsInt IntKind.i64 z135) ∧ ((IsInt IntKind.i64 z134) ∧ ((IsBool z49) ∧ ((IsBool z27) ∧ ((IsInt IntKind.i64 z150) ∧ ((IsInt IntKind.i64 z118) ∧ ((IsInt IntKind.i64 z136) ∧ ((IsInt IntKind.i64 z31) ∧ ((IsBool z137) ∧ ((IsBool z111) ∧ ((IsInt IntKind.i64 z97) ∧ ((IsInt IntKind.i64 z151) ∧ ((IsInt IntKind.i64 z119) ∧ ((IsInt IntKind.i64 z138) ∧ ((IsBool z32) ∧ ((IsBool z139) ∧ ((IsInt IntKind.i64 z112) ∧ ((IsInt IntKind.i64 z140) ∧ ((IsInt IntKind.i64 z28) ∧ ((IsInt IntKind.i64 z152) ∧ ((IsInt IntKind.i64 z120) ∧ ((IsInt IntKind.i64 z141) ∧ ((IsInt IntKind.i64 z33) ∧ ((IsInt IntKind.i64 z142) ∧ ((IsInt IntKind.i64 z113) ∧ ((IsInt IntKind.i64 z98) ∧ ((IsBool z153) ∧ ((IsInt IntKind.i64 z121) ∧ ((IsInt IntKind.i64 z143) ∧ ((IsBool z34) ∧ ((IsInt IntKind.i64 z144) ∧ ((IsInt IntKind.i64 z114) ∧ ((IsBool z50) ∧ ((IsInt IntKind.i64 z154) ∧ ((IsInt IntKind.i64 z122) ∧ ((IsInt IntKind.i64 z145) ∧ ((IsInt IntKind.i64 z35) ∧ ((IsInt IntKind.i64 z146) ∧ ((IsBool z115) ∧ ((IsInt IntKind.i64 z99) ∧ ((IsInt IntKind.i64 z155) ∧ ((IsBool z123) ∧ ((IsInt IntKind.i64 z147) ∧ ((IsInt IntKind.i64 z36) ∧ ((IsInt IntKind.i64 z148) ∧ ((IsInt IntKind.i64 z116) ∧ ((IsInt IntKind.i64 z100) ∧ ((IsInt IntKind.i64 z156) ∧ ((IsSl z25) ∧ ((IsSl z24) ∧ ((IsSl z23) ∧ ((IsSl z22) ∧ True)))))))))))))))))))))))))))))))))))))))))))))))))))))) ∧ (True ∧ (True ∧ ((((53 : Nat) = (53 : Nat)) ∧ z169) ∧ (((3 : Nat) ≤ (3 : Nat)) ∧ (z169 ∧ (((((ltAll (5 : Nat) [(1 : Nat), (2 : Nat)]) && Bool.true) = Bool.true) ∧ ((z168 ∧ (z168 ∧ (Bool.false = Bool.false))) ∧ (((NmOk z5) ∧ (TkOk z10)) ∧ ((BayOk z149 z104) ∧ (RlyOk [z102, z65, z51, z105, z106, z70, z56, z43, z91, z76, z62, z38, z71, z57, z44, z107, z77, z52, z39, z92, z72, z58, z45, z93, z66, z53, z40, z78, z59, z46, z108, z67, z54, z109, z73, z60, z47, z94, z68, z63, z41, z74, z64, z48, z95, z69, z55, z42, z75, z126, z127, z128, z129]))))) ∧ (True ∧ (True ∧ (True ∧ (pcond (z80 != (0 : Int)) (True ∧ (True ∧ (True ∧ (True ∧ ((∃ (r : Unit), (∃ (kp : (List KE)), (z131 ∧ ((Exit.ret = z96) ∧ (viewAllK (0 : Nat) kp z101 [z11, z16, z14, z15, z2] (Prod.fst (Prod.snd ((fun (x_1 : Unit) => z26) r))) (Prod.snd (Prod.snd ((fun (x_1 : Unit) => z26) r)))))))) ∨ (∃ (r : z124), (∃ (kp : (List KE)), ((((chkA s l) = (Prod.fst r)) ∧ ((chkR s l) = (Prod.snd r))) ∧ ((Exit.ret = Exit.ret) ∧ (viewAllK (0 : Nat) kp [(Prod.mk (4 : Nat) (D.v (Value.int IntKind.i64 z79))), (Prod.mk (5 : Nat) (D.v (Value.int IntKind.i64 z80)))] [z11, z16, z14, z15, z2] (Prod.fst (Prod.snd ((fun (p : z124) => (Prod.mk Exit.ret (Prod.mk [(Prod.mk (4 : Nat) (d_i (((Prod.fst p) : Nat) : Int))), (Prod.mk (5 : Nat) (d_i (Prod.snd p)))] z83))) r))) (Prod.snd (Prod.snd ((fun (p : z124) => (Prod.mk Exit.ret (Prod.mk [(Prod.mk (4 : Nat) (d_i (((Prod.fst p) : Nat) : Int))), (Prod.mk (5 : Nat) (d_i (Prod.snd p)))] z83))) r))))))))))))) (True ∧ (True ∧ (∃ (y : Nat), (∃ (kp : (List KE)), (((z81 - y) < (z81 - x)) ∧ (((y ≤ z81) ∧ (∀ (j : Nat), ((j < y) → ((rlyE s l j) = (0 : Int))))) ∧ (viewAllK (0 : Nat) kp [z133, z157, (Prod.mk (13 : Nat) (D.v (Value.int IntKind.i64 z132))), (Prod.mk (14 : Nat) (D.v (Value.int IntKind.i64 (IntKind.wrap IntKind.i64 (z79 + (1 : Int))))))] [z11, z16, z14, z15, z2] [z133, z157, (Prod.mk (13 : Nat) (d_i z132)), (Prod.mk (14 : Nat) (d_i ((y : Nat) : Int)))] (d_ckH s l y))))))))))))))))))))) ((∃ (r : Unit), (∃ (kp : (List KE)), (z131 ∧ ((z96 = z96) ∧ (viewAllK (0 : Nat) kp z101 [z11, z159, z158, z15] (Prod.fst (Prod.snd ((fun (x_1 : Unit) => z26) r))) (Prod.snd (Prod.snd ((fun (x_1 : Unit) => z26) r)))))))) ∨ (∃ (r : z124), (∃ (kp : (List KE)), ((((chkA s l) = (Prod.fst r)) ∧ ((chkR s l) = (Prod.snd r))) ∧ ((z96 = Exit.ret) ∧ (viewAllK (0 : Nat) kp z101 [z11, z159, z158, z15] (Prod.fst (Prod.snd ((fun (p : z124) => (Prod.mk Exit.ret (Prod.mk [(Prod.mk (4 : Nat) (d_i (((Prod.fst p) : Nat) : Int))), (Prod.mk (5 : Nat) (d_i (Prod.snd p)))] z83))) r))) (Prod.snd (Prod.snd ((fun (p : z124) => (Prod.mk Exit.ret (Prod.mk [(Prod.mk (4 : Nat) (d_i (((Prod.fst p) : Nat) : Int))), (Prod.mk (5 : Nat) (d_i (Prod.snd p)))] z83))) r)))))))))))) (by kernel_rfl) ?_
  obtain ⟨ok, hm, hok⟩ := hpre
  have hb := (okStn_lens ok).2.2.2
  obtain ⟨hx, hall⟩ := hJ
  have nS : NamelessL (d_stnL s) := stnD_nl s
  simp only [true_and, and_true, and_self, IsInt_lit, IsBool_lit, IsStr_lit, IsSl_lit, cellN_lit, cellL_lit, Bool.not_eq_true', Bool.not_eq_false', Bool.not_true, Bool.not_false, Int.reduceLE, Int.reduceLT, Int.reduceNeg, Nat.le_refl, Int.le_refl, Nat.reduceLT, Nat.reduceLeDiff, Nat.reduceEqDiff, D.v.injEq, D.tup.injEq, D.agg.injEq, D.ro.injEq, List.cons.injEq, Value.int.injEq, Value.bool.injEq, pcond_true, pcond_false, NamelessL, Nameless, Nat.reduceMul, Nat.reduceAdd, Nat.zero_add, Int.toNat_natCast, NmOk_lit, TkOk_lit, List.drop_succ_cons, List.drop_zero, unNm_C, unTk_C, BayOk_lit, unBay_D]
  refine pcond_intro (fun h => ?_) (fun h => ?_)
  · simp only [decide_eq_true_eq] at h
    have hxa : x < l.length := by omega
    have ga := rlysD_get l x hxa
    have ha := rlysD_length l
    have hv := hok _ (getD_mem hxa)
    simp only [Int.toNat_natCast, ga, cellStr_lit, IsStr_lit, cellInt_lit, IsInt_lit, cellBool_lit, IsBool_lit, cellN_lit, cellL_lit, IsSl_lit, wrap_succ hxa hm, true_and, and_true, and_self, rlyL, RlyOk_D, mkR_D, ad_one]
    refine ⟨⟨by omega, by omega⟩, by omega, ⟨rfl, hb, hv⟩, pcond_intro (fun h1 => ?_) (fun h1 => ?_)⟩
    · rw [bne_iff_ne] at h1
      obtain ⟨g1, g2⟩ := chk_of_at (s := s) (l := l) hxa hall h1
      exact .inr ⟨(x, oneE s (l.take x) (l.getD x default)), [], ⟨g1, g2⟩, ⟨rfl, rfl, ⟨trivial, rfl⟩, ⟨trivial, rfl⟩, trivial⟩⟩
    · rw [bne_eq_false_iff_eq] at h1
      obtain ⟨e1, e2⟩ := ad_next s l hxa h1
      rw [e1, e2]
      exact ⟨x + 1, [.old 0, .old 1, .old 2, .sam 3], by omega, ⟨by omega, next_all hall h1⟩, ⟨rfl, ⟨⟨rfl, nS⟩, ⟨rfl, nmM_nl _⟩, ⟨rfl, tkM_nl _⟩, ⟨rfl, rfl⟩, rfl⟩, ⟨trivial, rfl⟩, ⟨trivial, rfl⟩, ⟨trivial, rfl⟩, ⟨trivial, rfl⟩, trivial⟩⟩
  · simp only [decide_eq_false_iff_not] at h
    exact .inl ⟨(), [], chk_of_zero fun i hi => hall i (by omega), ⟨rfl, rfl, trivial⟩⟩
theorem p7Check_call (s : Stn) (l : List Rly) (hpre : okStn s ∧ okRlys l) : CallJ Tryz.prog 21 [.agg (d_stnL s), .ro l.length (rlysD l)] ([]) (.tup [.v (.int .i64 (chkA s l : Int)), .v (.int .i64 (chkR s l))]) ([]) := by
  refine callJ_of_vck (k := 0) (call := (addF 53 (entf_p7new) noCalls)) (lp := fun reg__ => bif Nat.beq reg__ 3 then some (lp_ckL s l) else none) (N := 10) T_ok mixed (addF_ok (entf_p7new_ok) noCalls_ok) Tryz.func21 rfl (by decide) (by kernel_rfl) (by kernel_rfl) rfl (of_eq (B := LRuleK 0 Tryz.prog Tryz.f21.ntmps (loopAt ((Tryz.f21.body).getD .skip) 3) (lp_ckL s l) ∧ True) (by kernel_rfl) ⟨ckL_rule s l hpre, trivial⟩) ?_
  refine of_eq (B := letI z11 := (D.v (Value.map (Option.none))); letI z3 := (D.v (Value.bool Bool.false)); letI z1 := (D.v (Value.int IntKind.i64 (1 : Int))); letI z13 := (D.v (Value.string (ByteArray.mk (Array.mk ([] : List UInt8))))); letI z15 := (busesD (Stn.bu s)); letI z16 := (linesD (Stn.li s)); letI z21 := (srcsD (Stn.so s)); letI z22 := (baysD (Stn.ba s)); letI z7 := (Stn.mk (Stn.n s) (unBus z15) (unLin z16) (unSrc z21) (unBay z22)); letI z0 := (List.cons z11 (List.cons z3 (List.cons z3 (List.cons z1 (List.cons z1 (List.cons z13 (nmC (putL ([] : List ByteArray) (namesS z7))))))))); letI z23 := (D.v (Value.string (Stn.n s))); letI z18 := (List.length (Stn.bu s)); letI z19 := (List.length (Stn.li s)); letI z25 := (List.length (Stn.so s)); letI z17 := (D.ro z25 z21); letI z26 := (List.length (Stn.ba s)); letI z10 := (D.ro z26 z22); letI z2 := (Option.some (Blk.mk (27 : Nat) [z23, (D.ro z18 z15), (D.ro z19 z16), z17, z10] Bool.true)); letI z4 := (D.v (Value.int IntKind.i64 (0 : Int))); letI z12 := (1000000007 : Nat); letI z5 := (Option.some (Blk.mk (113 : Nat) [z10, (D.ifc z12 (D.ptr (1 : Nat) (0 : Nat))), (D.ifc z12 (D.ptr (2 : Nat) (0 : Nat)))] Bool.true)); letI z6 := (List.cons z11 (List.cons z3 (List.cons z3 (List.cons z1 (List.cons z1 (List.cons z4 (tkC ([] : List Int)))))))); letI z8 := ([] : List (Option Blk)); letI z9 := (D.tup [(D.v (Value.int IntKind.i64 (((chkA s l) : Nat) : Int))), (D.v (Value.int IntKind.i64 (chkR s l)))]); letI z20 := List.length l; letI z14 := (D.v (Value.int IntKind.i64 ((z20 : Nat) : Int))); letI z24 := (D.ptr (3 : Nat) (0 : Nat)); letI z27 := (D.ro z20 (rlysD l)); (True ∧ (True ∧ (True ∧ (((5 : Nat) ≤ (5 : Nat)) ∧ (((((ltAll (1 : Nat) ([] : List Nat)) && Bool.true) = Bool.true) ∧ (StnOk z7 z18 z19 z25 z26 z15 z16 z21 z22)) ∧ (True ∧ ((((3 : Nat) = (3 : Nat)) ∧ ((3 : Nat) ≤ (3 : Nat))) ∧ (True ∧ (True ∧ (True ∧ ((((0 : Nat) ≤ z20) ∧ (∀ (j : Nat), ((j < (0 : Nat)) → ((rlyE s l j) = (0 : Int))))) ∧ (((Bool.true = Bool.true) ∧ ((((z2 = z2) ∧ (NamelessL [z23, (D.ro z18 z15), (D.ro z19 z16), z17, z10])) ∧ ((((Option.some (Blk.mk z12 (List.cons z11 (List.cons z3 (List.cons z3 (List.cons z1 (List.cons z1 (List.cons z13 (nmC (nmR s l (0 : Nat))))))))) Bool.true)) = (Option.some (Blk.mk z12 z0 Bool.true))) ∧ (NamelessL z0)) ∧ ((((Option.some (Blk.mk z12 (List.cons z11 (List.cons z3 (List.cons z3 (List.cons z1 (List.cons z1 (List.cons z4 (tkC (tkR l (0 : Nat))))))))) Bool.true)) = (Option.some (Blk.mk z12 z6 Bool.true))) ∧ (NamelessL z6)) ∧ (((z5 = z5) ∧ ((List.all [(1 : Nat), (2 : Nat)] (fun (c : Nat) => (firstK.match_1 (fun (x : (Option Nat)) => Bool) (idxOf (kO [(KE.old (0 : Nat)), (KE.old (1 : Nat)), (KE.old (2 : Nat)), (KE.sam (3 : Nat))]) c) (fun (i : Nat) => (Nat.beq i c)) (fun (_ : Unit) => Bool.false)))) = Bool.true)) ∧ (z8 = z8))))) ∧ ((True ∧ (z24 = z24)) ∧ ((True ∧ (z27 = z27)) ∧ ((True ∧ (z14 = z14)) ∧ ((True ∧ (z4 = z4)) ∧ True)))))) ∧ ((Unit → ((((chkA s l) = (0 : Nat)) ∧ ((chkR s l) = (0 : Int))) → (True ∧ (True ∧ (True ∧ (∃ (kp : (List KE)), (viewFin (0 : Nat) kp z8 (D.tup [z4, z4]) z9 z8))))))) ∧ (∀ (r : (Prod Nat Int)), ((((chkA s l) = (Prod.fst r)) ∧ ((chkR s l) = (Prod.snd r))) → (True ∧ (∃ (kp : (List KE)), (viewFin (0 : Nat) kp z8 (D.tup [(D.v (Value.int IntKind.i64 (((Prod.fst r) : Nat) : Int))), (D.v (Value.int IntKind.i64 (Prod.snd r)))]) z9 z8))))))))))))))))))) (by kernel_rfl) ?_
  obtain ⟨ok, hm, hok⟩ := hpre
  have nA : NamelessL (busesD s.bu) ∧ NamelessL (linesD s.li) ∧ NamelessL (srcsD s.so) ∧ NamelessL (baysD s.ba) := ⟨busesD_nl s.bu, linesD_nl s.li, srcsD_nl s.so, baysD_nl s.ba⟩
  simp only [true_and, and_true, and_self, IsInt_lit, IsBool_lit, IsStr_lit, IsSl_lit, cellN_lit, cellL_lit, Bool.not_eq_true', Bool.not_eq_false', Bool.not_true, Bool.not_false, Int.reduceLE, Int.reduceLT, Int.reduceNeg, Nat.le_refl, Int.le_refl, Nat.reduceLT, Nat.reduceLeDiff, Nat.reduceEqDiff, D.v.injEq, D.tup.injEq, D.agg.injEq, D.ro.injEq, List.cons.injEq, Value.int.injEq, Value.bool.injEq, pcond_true, pcond_false, NamelessL, Nameless, Nat.reduceMul, Nat.reduceAdd, Nat.zero_add, Int.toNat_natCast, StnOk_lit, unBus_D, unLin_D, unSrc_D, unBay_D, stn_eta]
  have e0 : nmR s l 0 = putL [] (namesS s) := by simp [nmR]
  rw [e0]
  refine ⟨⟨rfl, okStn_lens ok, ok⟩, ⟨Nat.zero_le _, fun j h => absurd h (Nat.not_lt_zero _)⟩, ⟨nA, ⟨rfl, nmC_nl _⟩, ⟨rfl, tkC_nl []⟩, rfl⟩, fun _ h => ?_, fun r h => ?_⟩
  · rw [h.1, h.2]; exact ⟨[], rfl, rfl, ⟨⟨trivial, trivial, trivial⟩, rfl⟩⟩
  · rw [h.1, h.2]; exact ⟨[], rfl, rfl, ⟨⟨trivial, trivial, trivial⟩, rfl⟩⟩
def ent_p7Check : Ent := fun ds => match ds with
  | [.agg [.v (.string n), .ro nb xb, .ro nl xl, .ro ns xs, .ro ny xy], .ro m xr] =>
    some (.tup [.v (.int .i64 (chkA ⟨n, unBus xb, unLin xl, unSrc xs, unBay xy⟩ (unRly m xr) : Int)), .v (.int .i64 (chkR ⟨n, unBus xb, unLin xl, unSrc xs, unBay xy⟩ (unRly m xr)))], StnOk ⟨n, unBus xb, unLin xl, unSrc xs, unBay xy⟩ nb nl ns ny xb xl xs xy ∧ RlysOk m xr)
  | _ => none
theorem ent_p7Check_ok : EntOk Tryz.prog 21 ent_p7Check := by
  intro ds d c hd hc; unfold ent_p7Check at hd; split at hd
  · rename_i n nb xb nl xl ns xs ny xy m xr
    obtain ⟨rfl, rfl⟩ := pair_inj hd
    obtain ⟨⟨⟨⟨⟨a1, a2⟩, -⟩, ⟨⟨b1, b2⟩, -⟩, ⟨⟨c1, c2⟩, -⟩, ⟨⟨d1, d2⟩, -⟩⟩, ho⟩, ⟨g1, g2⟩, hr⟩ := hc
    generalize unBus xb = u1 at *
    generalize unLin xl = u2 at *
    generalize unSrc xs = u3 at *
    generalize unBay xy = u4 at *
    generalize unRly m xr = u5 at *
    subst a1; subst a2; subst b1; subst b2; subst c1; subst c2; subst d1; subst d2; subst g1; subst g2
    exact PureJ.of_nil ⟨stnD_nl ⟨n, u1, u2, u3, u4⟩, rlysD_nl u5, trivial⟩ ⟨trivial, trivial, trivial⟩ (p7Check_call ⟨n, u1, u2, u3, u4⟩ u5 ⟨ho, hr⟩)
  · cases hd
end Go.Proofs.YtfleadelfklenaaGreatDoor
end
section
namespace Go.Proofs.YtfleadelfklenaaGreatDoor
open Go.VD Go.RowKit
set_option linter.unusedVariables false
set_option linter.unusedSimpArgs false
set_option maxRecDepth 100000
theorem rdT_byte {E : Ctx} {s : ByteArray} {c : Int} {vals : List Value} (h : RdT E [.v (.string s), .v (.int .u8 c)] vals) : vals = [.string s, .int .u8 c] := by
  simp only [RdT, Rd] at h
  obtain ⟨u, r, rfl, rfl, u2, r2, rfl, rfl, rfl⟩ := h
  rfl
theorem ext_index {P : Program} {f : FuncId} {fn : Func} (hf : P.funcs[f]? = some fn) (hname : (fn.name == "runtime.NumGoroutine") = false) (hb : fn.body.isNone = true) (hn : Extern.findNext fn = none) (he : Extern.find fn = some Extern.BytealgIndexByte.indexByte)
    (s : ByteArray) (c : Int) : ExtJ P f [.v (.string s), .v (.int .u8 c)] (.v (.int .i64 (Lib.indexByte s.data.toList c.toNat.toUInt8))) := by
  intro E vals w hr
  rw [rdT_byte hr]
  refine ⟨.int .i64 (Lib.indexByte s.data.toList c.toNat.toUInt8), ?_, by simp only [Rd]⟩
  rw [run_callFunc_extern hf hname hb hn he]
  have := Lib.run_indexByteString (P := P) s c w
  simp only [this, Result.andThen]
def ent_x_index : Ent := fun ds => match ds with
  | [.v (.string s), .v (.int .u8 c)] => some (.v (.int .i64 (Lib.indexByte s.data.toList c.toNat.toUInt8)), True)
  | _ => none
theorem ent_x_index_ok : ∀ ds d c, ent_x_index ds = some (d, c) → c → ExtJ Tryz.prog 240 ds d := by
  intro ds d c h hc; unfold ent_x_index at h; split at h
  · obtain ⟨rfl, rfl⟩ := pair_inj h
    exact ext_index Tryz.func240 (by kernel_rfl) (by kernel_rfl) (by kernel_rfl) (by kernel_rfl) _ _
  · cases h
theorem ent_x_index_true {ds : List D} {d : D} {c : Prop} (h : ent_x_index ds = some (d, c)) : c := by
  unfold ent_x_index at h; split at h
  · obtain ⟨_, rfl⟩ := pair_inj h; trivial
  · cases h
def sgBase : VD.Callee := fun f ds H => bif Nat.beq f 167 then (match ds with
    | [.v (.string s)] => bif Nat.ble s.size 1000000 then some (.v (.string s), H, .no) else none
    | _ => none) else
  bif Nat.beq f 240 then (match ent_x_index ds with
    | some (d, _) => some (d, H, .no)
    | none => none) else none
theorem sgBase_ok : CallOk Tryz.prog sgBase := by
  intro g ds H d H' t h K hk
  unfold sgBase at h
  cases hg : Nat.beq g 167 with
  | false =>
    rw [hg] at h
    simp only [cond_false] at h
    cases h3 : Nat.beq g 240 with
    | true =>
      rw [h3] at h
      have e := Nat.eq_of_beq_eq_true h3
      subst e
      simp only [cond_true] at h
      split at h
      · rename_i d0 c0 he
        simp only [Option.some.injEq, Prod.mk.injEq] at h
        obtain ⟨rfl, rfl, rfl⟩ := h
        exact .ext _ (ent_x_index_ok _ _ _ he (ent_x_index_true he)) hk
      · cases h
    | false => rw [h3] at h; cases h
  | true =>
    rw [hg] at h
    have hgf : g = 167 := Nat.eq_of_beq_eq_true hg
    subst hgf
    simp only [cond_true] at h
    split at h
    · rename_i s
      cases hs : Nat.ble s.size 1000000 with
      | false => rw [hs] at h; cases h
      | true =>
        rw [hs] at h
        simp only [cond_true, Option.some.injEq, Prod.mk.injEq] at h
        obtain ⟨rfl, rfl, rfl⟩ := h
        exact .pure _ (lclone_pure s (Nat.le_of_ble_eq_true hs)) hk
    · cases h
end Go.Proofs.YtfleadelfklenaaGreatDoor
end
section
namespace Go.Proofs.YtfleadelfklenaaGreatDoor
open Go.VD
set_option linter.unusedVariables false
set_option linter.unusedSimpArgs false
set_option maxRecDepth 100000
theorem sgKnown_pure : PureJ Tryz.prog 19 [] (.v (.bool true)) :=
  pure_of_ev T_ok mixed sgBase_ok (N := 1000) (n := 50) Tryz.func19 rfl (by kernel_rfl)
def ent_sgKnown : Ent := fun ds => match ds with
  | [] => some (.v (.bool true), True)
  | _ => none
theorem ent_sgKnown_ok : EntOk Tryz.prog 19 ent_sgKnown := by
  intro ds d c h hc; unfold ent_sgKnown at h; split at h
  · obtain ⟨rfl, rfl⟩ := pair_inj h; exact sgKnown_pure
  · cases h
end Go.Proofs.YtfleadelfklenaaGreatDoor
end
