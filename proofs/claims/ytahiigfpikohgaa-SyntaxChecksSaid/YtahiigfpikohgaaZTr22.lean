import Derived.Test.YtahiigfpikohgaaZTr21
section
namespace Go.Proofs.Ytahiigfpikohgaa
open Go.VD
set_option linter.unusedVariables false
set_option linter.unusedSimpArgs false
set_option maxRecDepth 100000
def bs (l : List UInt8) : ByteArray := ⟨l.toArray⟩
theorem bs_app (a b : List UInt8) : bs a ++ bs b = bs (a ++ b) := by
  apply ByteArray.ext; apply Array.toList_inj.1; rw [ByteArray.data_append]; simp [bs]
theorem bs_of (s : ByteArray) : bs s.data.toList = s := by simp [bs]
theorem bs_size (l : List UInt8) : (bs l).size = l.length := by simp [bs, ByteArray.size]
def blk (d : Nat) : List UInt8 := List.replicate (2 * d) 32
theorem blk_succ (d : Nat) : blk (d + 1) = blk d ++ [32, 32] := by
  unfold blk; rw [show 2 * (d + 1) = 2 * d + 1 + 1 by omega, List.replicate_succ', List.replicate_succ', List.append_assoc]; rfl
theorem lit (l : List UInt8) : (⟨⟨l⟩⟩ : ByteArray) = bs l := rfl
theorem blk_length (d : Nat) : (blk d).length = 2 * d := by simp [blk]
def RfmtIH (h : Nat) : Prop := ∀ (l : List Itm) (d : Nat), hL l < h → (okL l ∧ l.length ≤ maxLen) → d + hL l ≤ 100 → (fmtL l (blk d)).length ≤ 140737488355328 →
  PureJ Try.prog 22 [.ro l.length (itemsD l), .v (.int .i64 (d : Int))] (.v (.string (bs (fmtL l (blk d)))))
def ent_rfmtR (h : Nat) : Ent := fun ds => match ds with
  | [.ro n ys, .v (.int .i64 d)] => some (.v (.string (bs (fmtL (unI ys) (blk d.toNat)))), (IOk n ys ∧ hL (unI ys) < h) ∧ (0 ≤ d ∧ d + hL (unI ys) ≤ 100) ∧ (fmtL (unI ys) (blk d.toNat)).length ≤ 140737488355328)
  | _ => none
theorem ent_rfmtR_ok (h : Nat) (ih : RfmtIH h) : EntOk Try.prog 22 (ent_rfmtR h) := by
  intro ds d0 c0 hd hc; unfold ent_rfmtR at hd; split at hd
  · rename_i n ys d
    obtain ⟨rfl, rfl⟩ := pair_inj hd
    obtain ⟨⟨⟨⟨h1, h2⟩, h3, h4⟩, hh⟩, ⟨d1, d2⟩, hs⟩ := hc
    generalize unI ys = l at *
    subst h1; subst h2
    obtain ⟨dn, rfl⟩ := Int.eq_ofNat_of_zero_le d1
    exact ih l dn hh ⟨h4, h3⟩ (by omega) hs
  · cases hd
def lp_rfmtBlank (l : List Itm) (d : Nat) : LoopO := loopRule (α := Nat) (β := Unit) [] (fun i => i ≤ d) (fun i => [(0, .ro l.length (itemsD l)), (1, .v (.int .i64 (d : Int))), (5, .v (.string (bs (blk i)))), (6, .v (.int .i64 (i : Int)))]) (fun i => []) (0) (fun _ => True) (fun _ => (.exit 0, [(0, .ro l.length (itemsD l)), (1, .v (.int .i64 (d : Int))), (5, .v (.string (bs (blk d))))], []))
theorem rfmtBlank_rule (l : List Itm) (d : Nat) (hpre : d + hL l ≤ 100) : LRuleP Try.prog Try.f22.ntmps (loopAt ((Try.f22.body).getD .skip) 3) (lp_rfmtBlank l d) := by
  refine lrule_of (α := Nat) (β := Unit) (call := noCalls) (lp := fun _ => none) (N := 10) T_ok mixed noCalls_ok (fun i => d - i) (by kernel_rfl) (LpAllP.none _) ?_
  intro x hJ
  refine of_eq (B := letI z0 := (Prod.mk (1 : Nat) (D.v (Value.int IntKind.i64 ((d : Nat) : Int)))); letI z1 := (Prod.mk (0 : Nat) (D.ro (List.length l) (itemsD l))); letI z4 := (Exit.exit (0 : Nat)); letI z3 := ([] : List (Option Blk)); letI z2 := (Prod.mk z4 (Prod.mk [z1, z0, (Prod.mk (5 : Nat) (D.v (Value.string (bs (blk d)))))] z3)); letI z5 := (List (Option Nat)); (True ∧ (True ∧ (True ∧ (pcond (Decidable.decide (((x : Nat) : Int) < ((d : Nat) : Int))) (True ∧ ((((((ByteArray.size (bs (blk x))) + (2 : Nat)) : Nat) : Int) ≤ (9223372036854775807 : Int)) ∧ (True ∧ (True ∧ (True ∧ (True ∧ (∃ (y : Nat), (∃ (kp : z5), (((d - y) < (d - x)) ∧ ((y ≤ d) ∧ (viewAll kp [z1, z0, (Prod.mk (5 : Nat) (D.v (Value.string ((bs (blk x)) ++ (ByteArray.mk (Array.mk [(32 : UInt8), (32 : UInt8)])))))), (Prod.mk (6 : Nat) (D.v (Value.int IntKind.i64 (IntKind.wrap IntKind.i64 (((x : Nat) : Int) + (1 : Int))))))] z3 [z1, z0, (Prod.mk (5 : Nat) (D.v (Value.string (bs (blk y))))), (Prod.mk (6 : Nat) (D.v (Value.int IntKind.i64 ((y : Nat) : Int))))] z3))))))))))) (∃ (r : Unit), (∃ (kp : z5), (True ∧ ((z4 = z4) ∧ (viewAll kp [z1, z0, (Prod.mk (5 : Nat) (D.v (Value.string (bs (blk x)))))] z3 (Prod.fst (Prod.snd ((fun (x_1 : Unit) => z2) r))) (Prod.snd (Prod.snd ((fun (x_1 : Unit) => z2) r))))))))))))) (by kernel_rfl) ?_
  simp only [true_and, and_true, and_self, IsInt_lit, IsBool_lit, IsStr_lit, IsSl_lit, cellN_lit, cellL_lit, Bool.not_eq_true', Bool.not_eq_false', Bool.not_true, Bool.not_false, Int.reduceLE, Int.reduceLT, Int.reduceNeg, Nat.le_refl, Int.le_refl, Nat.reduceLT, Nat.reduceLeDiff, Nat.reduceEqDiff, D.v.injEq, D.tup.injEq, D.agg.injEq, D.ro.injEq, List.cons.injEq, Value.int.injEq, Value.bool.injEq, pcond_true, pcond_false, NamelessL, Nameless, Nat.reduceMul, Nat.reduceAdd, Nat.zero_add, Int.toNat_natCast, lit, bs_app, ← blk_succ, bs_size, blk_length] at *
  refine pcond_intro (fun h1 => ?_) (fun h1 => ?_)
  · simp only [decide_eq_true_eq] at h1
    have hi : IntKind.i64.wrap ((x : Int) + 1) = ((x + 1 : Nat) : Int) := by rw [wrap_i64_of (by omega) (by omega)]; omega
    rw [hi]
    refine ⟨by omega, x + 1, [], by omega, by omega, ?_⟩
    refine of_eq (B := letI z0 := (D.v (Value.int IntKind.i64 (((x + (1 : Nat)) : Nat) : Int))); letI z1 := (D.v (Value.int IntKind.i64 ((d : Nat) : Int))); letI z2 := (D.v (Value.string (bs (blk (x + (1 : Nat)))))); letI z3 := (D.ro (List.length l) (itemsD l)); letI z4 := ([] : List (Option Blk)); ((Bool.true = Bool.true) ∧ ((z4 = z4) ∧ ((True ∧ (z3 = z3)) ∧ ((True ∧ (z1 = z1)) ∧ ((True ∧ (z2 = z2)) ∧ ((True ∧ (z0 = z0)) ∧ True))))))) (by kernel_rfl) ?_; simp
  · simp only [decide_eq_false_iff_not] at h1
    have e : x = d := by omega
    subst e
    refine ⟨(), [], ?_⟩
    refine of_eq (B := letI z0 := (D.v (Value.int IntKind.i64 ((x : Nat) : Int))); letI z1 := (D.ro (List.length l) (itemsD l)); letI z2 := (D.v (Value.string (bs (blk x)))); letI z3 := ([] : List (Option Blk)); ((Bool.true = Bool.true) ∧ ((z3 = z3) ∧ ((True ∧ (z1 = z1)) ∧ ((True ∧ (z0 = z0)) ∧ ((True ∧ (z2 = z2)) ∧ True)))))) (by kernel_rfl) ?_; simp
def lp_rfmtIn (l : List Itm) (d : Nat) (z : Nat × List UInt8) : LoopO := loopRule (α := Nat) (β := Unit) [] (fun j => z.1 < l.length ∧ j ≤ (l.getD z.1 default).ws.length ∧ z.2.length + (wsA (l.getD z.1 default).ws true).length ≤ 140737488355328) (fun j => [(0, .ro l.length (itemsD l)), (1, .v (.int .i64 (d : Int))), (5, .v (.string (bs (blk d)))), (7, .v (.string (bs (z.2 ++ wsA ((l.getD z.1 default).ws.take j) true)))), (8, .v (.int .i64 (z.1 : Int))), (9, .v (.int .i64 (j : Int)))]) (fun j => []) (0) (fun _ => True) (fun _ => (.exit 4, [(0, .ro l.length (itemsD l)), (1, .v (.int .i64 (d : Int))), (5, .v (.string (bs (blk d)))), (7, .v (.string (bs (z.2 ++ wsA (l.getD z.1 default).ws true)))), (8, .v (.int .i64 (z.1 : Int)))], []))
theorem rfmtIn_rule (l : List Itm) (d : Nat) (z : Nat × List UInt8) (hpre : okL l ∧ l.length ≤ maxLen) : LRuleP Try.prog Try.f22.ntmps (loopAt (loopAt ((Try.f22.body).getD .skip) 8) 12) (lp_rfmtIn l d z) := by
  refine lrule_of (α := Nat) (β := Unit) (call := noCalls) (lp := fun _ => none) (N := 10) T_ok mixed noCalls_ok (fun j => (l.getD z.1 default).ws.length - j) (by kernel_rfl) (LpAllP.none _) ?_
  intro x hJ
  refine of_eq (B := letI z15 := (((Prod.fst z) : Nat) : Int); letI z30 := (((Int.toNat z15) * (4 : Nat)) + (1 : Nat)); letI z0 := (List.getD (itemsD l) z30 (Inhabited.default)); letI z1 := (Itm.ws (List.getD l (Prod.fst z) (Inhabited.default))); letI z23 := ((x : Nat) : Int); letI z19 := ((Int.toNat z23) * (2 : Nat)); letI z29 := (List.getD (cellL z0) z19 (Inhabited.default)); letI z2 := (cellStr z29); letI z3 := (List.getD (cellL z0) (z19 + (1 : Nat)) (Inhabited.default)); letI z4 := (Prod.mk (8 : Nat) (D.v (Value.int IntKind.i64 z15))); letI z5 := (bs ((Prod.snd z) ++ (wsA (List.take x z1) Bool.true))); letI z6 := (Prod.mk (1 : Nat) (D.v (Value.int IntKind.i64 ((d : Nat) : Int)))); letI z33 := List.length l; letI z7 := (Prod.mk (0 : Nat) (D.ro z33 (itemsD l))); letI z8 := (Prod.mk (5 : Nat) (D.v (Value.string (bs (blk d))))); letI z9 := (Prod.mk (9 : Nat) (D.v (Value.int IntKind.i64 (IntKind.wrap IntKind.i64 (z23 + (1 : Int)))))); letI z35 := (D.v (Value.string z2)); letI z32 := (D.v (Value.bool (cellBool z3))); letI z10 := (Option.some (Blk.mk (51 : Nat) [z35, z32] Bool.true)); letI z11 := (((List.length (Prod.snd z)) + (List.length (wsA z1 Bool.true))) ≤ (140737488355328 : Nat)); letI z12 := (ByteArray.mk (Array.mk [(34 : UInt8)])); letI z13 := (z5 ++ (ByteArray.mk (Array.mk [(32 : UInt8)]))); letI z14 := (9223372036854775807 : Int); letI z16 := (((0 : Nat) < (2 : Nat)) ∧ (IsStr z35)); letI z31 := (Exit.exit (4 : Nat)); letI z20 := ([] : List (Option Blk)); letI z17 := (Prod.mk z31 (Prod.mk [z7, z6, z8, (Prod.mk (7 : Nat) (D.v (Value.string (bs ((Prod.snd z) ++ (wsA z1 Bool.true)))))), z4] z20)); letI z18 := List.length z1; letI z21 := ((Prod.fst z) < z33); letI z22 := ((z30 < (List.length (itemsD l))) ∧ (IsSl z0)); letI z24 := (((1 : Nat) < (2 : Nat)) ∧ (IsBool z32)); letI z25 := (List (Option Nat)); letI z26 := (((0 : Int) ≤ z15) ∧ (z15 < ((z33 : Nat) : Int))); letI z39 := ByteArray.size z5; letI z27 := ((((z39 + (1 : Nat)) : Nat) : Int) ≤ z14); letI z28 := ByteArray.size z2; letI z34 := (((cellN z0) : Nat) : Int); letI z36 := ByteArray.size z13; letI z37 := ((z13 ++ z12) ++ z2); letI z38 := ((z5 ++ z12) ++ z2); (True ∧ (True ∧ (True ∧ (z26 ∧ (True ∧ (z22 ∧ (True ∧ (True ∧ (pcond (Decidable.decide (z23 < z34)) (True ∧ (True ∧ (z26 ∧ (True ∧ (z22 ∧ (True ∧ ((((0 : Int) ≤ z23) ∧ (z23 < z34)) ∧ ((((z19 + (2 : Nat)) ≤ (List.length (cellL z0))) ∧ ((IsStr z29) ∧ ((IsBool z3) ∧ True))) ∧ (True ∧ ((((2 : Nat) = (2 : Nat)) ∧ ((2 : Nat) ≤ (2 : Nat))) ∧ (True ∧ (True ∧ (pcond (Decidable.decide ((0 : Int) < z23)) (True ∧ (z27 ∧ (True ∧ (True ∧ (z24 ∧ (pcond (cellBool z3) (True ∧ (((((z36 + (1 : Nat)) : Nat) : Int) ≤ z14) ∧ (True ∧ (z16 ∧ ((((((ByteArray.size (z13 ++ z12)) + z28) : Nat) : Int) ≤ z14) ∧ ((((((ByteArray.size z37) + (1 : Nat)) : Nat) : Int) ≤ z14) ∧ (True ∧ (True ∧ (True ∧ (True ∧ (∃ (y : Nat), (∃ (kp : z25), (((z18 - y) < (z18 - x)) ∧ ((z21 ∧ ((y ≤ z18) ∧ z11)) ∧ (viewAll kp [z7, z6, z8, (Prod.mk (7 : Nat) (D.v (Value.string (z37 ++ z12)))), z4, z9] [z10] [z7, z6, z8, (Prod.mk (7 : Nat) (D.v (Value.string (bs ((Prod.snd z) ++ (wsA (List.take y z1) Bool.true)))))), z4, (Prod.mk (9 : Nat) (D.v (Value.int IntKind.i64 ((y : Nat) : Int))))] z20))))))))))))))) (True ∧ (True ∧ (z16 ∧ (((((z36 + z28) : Nat) : Int) ≤ z14) ∧ (True ∧ (True ∧ (True ∧ (True ∧ (∃ (y : Nat), (∃ (kp : z25), (((z18 - y) < (z18 - x)) ∧ ((z21 ∧ ((y ≤ z18) ∧ z11)) ∧ (viewAll kp [z7, z6, z8, (Prod.mk (7 : Nat) (D.v (Value.string (z13 ++ z2)))), z4, z9] [z10] [z7, z6, z8, (Prod.mk (7 : Nat) (D.v (Value.string (bs ((Prod.snd z) ++ (wsA (List.take y z1) Bool.true)))))), z4, (Prod.mk (9 : Nat) (D.v (Value.int IntKind.i64 ((y : Nat) : Int))))] z20))))))))))))))))))) (True ∧ (z24 ∧ (pcond (cellBool z3) (True ∧ (z27 ∧ (True ∧ (z16 ∧ ((((((ByteArray.size (z5 ++ z12)) + z28) : Nat) : Int) ≤ z14) ∧ ((((((ByteArray.size z38) + (1 : Nat)) : Nat) : Int) ≤ z14) ∧ (True ∧ (True ∧ (True ∧ (True ∧ (∃ (y : Nat), (∃ (kp : z25), (((z18 - y) < (z18 - x)) ∧ ((z21 ∧ ((y ≤ z18) ∧ z11)) ∧ (viewAll kp [z7, z6, z8, (Prod.mk (7 : Nat) (D.v (Value.string (z38 ++ z12)))), z4, z9] [z10] [z7, z6, z8, (Prod.mk (7 : Nat) (D.v (Value.string (bs ((Prod.snd z) ++ (wsA (List.take y z1) Bool.true)))))), z4, (Prod.mk (9 : Nat) (D.v (Value.int IntKind.i64 ((y : Nat) : Int))))] z20))))))))))))))) (True ∧ (True ∧ (z16 ∧ (((((z39 + z28) : Nat) : Int) ≤ z14) ∧ (True ∧ (True ∧ (True ∧ (True ∧ (∃ (y : Nat), (∃ (kp : z25), (((z18 - y) < (z18 - x)) ∧ ((z21 ∧ ((y ≤ z18) ∧ z11)) ∧ (viewAll kp [z7, z6, z8, (Prod.mk (7 : Nat) (D.v (Value.string (z5 ++ z2)))), z4, z9] [z10] [z7, z6, z8, (Prod.mk (7 : Nat) (D.v (Value.string (bs ((Prod.snd z) ++ (wsA (List.take y z1) Bool.true)))))), z4, (Prod.mk (9 : Nat) (D.v (Value.int IntKind.i64 ((y : Nat) : Int))))] z20))))))))))))))))))))))))))))) (∃ (r : Unit), (∃ (kp : z25), (True ∧ ((z31 = z31) ∧ (viewAll kp [z7, z6, z8, (Prod.mk (7 : Nat) (D.v (Value.string z5))), z4] z20 (Prod.fst (Prod.snd ((fun (x_1 : Unit) => z17) r))) (Prod.snd (Prod.snd ((fun (x_1 : Unit) => z17) r)))))))))))))))))) (by kernel_rfl) ?_
  simp only [true_and, and_true, and_self, IsInt_lit, IsBool_lit, IsStr_lit, IsSl_lit, cellN_lit, cellL_lit, Bool.not_eq_true', Bool.not_eq_false', Bool.not_true, Bool.not_false, Int.reduceLE, Int.reduceLT, Int.reduceNeg, Nat.le_refl, Int.le_refl, Nat.reduceLT, Nat.reduceLeDiff, Nat.reduceEqDiff, D.v.injEq, D.tup.injEq, D.agg.injEq, D.ro.injEq, List.cons.injEq, Value.int.injEq, Value.bool.injEq, pcond_true, pcond_false, NamelessL, Nameless, Nat.reduceMul, Nat.reduceAdd, Nat.zero_add, Int.toNat_natCast] at *
  obtain ⟨ho, hlm⟩ := hpre
  obtain ⟨hz, hx, hsz⟩ := hJ
  have hu := okL_get l z.1 ho hz
  obtain ⟨g0, g1, g2, g3⟩ := itemsD_get l z.1 hz
  have hlen := itemsD_length l
  simp only [maxLen] at hlm
  generalize l.getD z.1 default = u at *
  obtain ⟨o1, o2, o3, o4⟩ := okI_parts hu
  simp only [maxLen] at o1
  simp only [g0, g1, g2, g3, cellInt_lit, cellN_lit, cellL_lit, cellBool_lit, IsInt_lit, IsSl_lit, IsBool_lit]
  refine ⟨by omega, ⟨by omega, trivial⟩, pcond_intro (fun h1 => ?_) (fun h1 => ?_)⟩
  · simp only [decide_eq_true_eq] at h1
    have hxl : x < u.ws.length := by omega
    obtain ⟨q0, q1⟩ := wordsD_get u.ws x hxl
    have l1 := wordsD_length u.ws
    have hi : IntKind.i64.wrap ((x : Int) + 1) = ((x + 1 : Nat) : Int) := by rw [wrap_i64_of (by omega) (by omega)]; omega
    have st := wsA_step hxl
    have le := wsA_le u.ws (x + 1)
    have ewd : wdT (u.ws.getD x default) = bif (u.ws.getD x default).q then 34 :: ((u.ws.getD x default).t.data.toList ++ [34]) else (u.ws.getD x default).t.data.toList := rfl
    obtain ⟨t, ht⟩ : ∃ t, (u.ws.getD x default).t = bs t := ⟨_, (bs_of _).symm⟩
    have htd : (bs t).data.toList = t := by simp [bs]
    rw [ht, htd] at ewd
    generalize hwt : wdT (u.ws.getD x default) = wt at *
    simp only [q0, q1, cellStr_lit, cellBool_lit, IsStr_lit, IsBool_lit, hi, ht, lit, bs_app, bs_size]
    refine ⟨by omega, ⟨by omega, trivial⟩, by omega, ⟨by omega, trivial, trivial⟩, pcond_intro (fun h2 => ?_) (fun h2 => ?_)⟩
    · simp only [decide_eq_true_eq] at h2
      rw [decide_eq_false (show ¬ x = 0 by omega), cond_false] at st
      have ll := congrArg List.length st
      simp only [List.length_append, List.length_cons, List.length_nil] at ll
      refine ⟨?_, pcond_intro (fun h3 => ?_) (fun h3 => ?_)⟩
      · rw [List.length_append]; omega
      · rw [h3, cond_true] at ewd
        have lw := congrArg List.length ewd
        simp only [List.length_append, List.length_cons, List.length_nil] at lw
        have e1 : z.2 ++ wsA (u.ws.take x) true ++ [32] ++ [34] ++ t ++ [34] = z.2 ++ wsA (u.ws.take (x + 1)) true := by rw [st, ewd]; simp
        refine ⟨?_, ?_, ?_, x + 1, [], by omega, ⟨hz, by omega, hsz⟩, ?_⟩
        · simp only [List.length_append, List.length_cons, List.length_nil]; omega
        · simp only [List.length_append, List.length_cons, List.length_nil]; omega
        · simp only [List.length_append, List.length_cons, List.length_nil]; omega
        · rw [e1]
          refine of_eq (B := letI z0 := (D.v (Value.string (bs ((Prod.snd z) ++ (wsA (List.take (x + (1 : Nat)) (Itm.ws u)) Bool.true))))); letI z1 := (D.v (Value.int IntKind.i64 (((x + (1 : Nat)) : Nat) : Int))); letI z2 := (D.v (Value.int IntKind.i64 (((Prod.fst z) : Nat) : Int))); letI z3 := (D.v (Value.int IntKind.i64 ((d : Nat) : Int))); letI z4 := (D.ro (List.length l) (itemsD l)); letI z5 := (D.v (Value.string (bs (blk d)))); letI z6 := ([] : List (Option Blk)); ((Bool.true = Bool.true) ∧ ((z6 = z6) ∧ ((True ∧ (z4 = z4)) ∧ ((True ∧ (z3 = z3)) ∧ ((True ∧ (z5 = z5)) ∧ ((True ∧ (z0 = z0)) ∧ ((True ∧ (z2 = z2)) ∧ ((True ∧ (z1 = z1)) ∧ True))))))))) (by kernel_rfl) ?_; simp
      · rw [h3, cond_false] at ewd
        have lw := congrArg List.length ewd
        have e1 : z.2 ++ wsA (u.ws.take x) true ++ [32] ++ t = z.2 ++ wsA (u.ws.take (x + 1)) true := by rw [st, ewd]; simp
        refine ⟨?_, x + 1, [], by omega, ⟨hz, by omega, hsz⟩, ?_⟩
        · simp only [List.length_append, List.length_cons, List.length_nil]; omega
        · rw [e1]
          refine of_eq (B := letI z0 := (D.v (Value.string (bs ((Prod.snd z) ++ (wsA (List.take (x + (1 : Nat)) (Itm.ws u)) Bool.true))))); letI z1 := (D.v (Value.int IntKind.i64 (((x + (1 : Nat)) : Nat) : Int))); letI z2 := (D.v (Value.int IntKind.i64 (((Prod.fst z) : Nat) : Int))); letI z3 := (D.v (Value.int IntKind.i64 ((d : Nat) : Int))); letI z4 := (D.ro (List.length l) (itemsD l)); letI z5 := (D.v (Value.string (bs (blk d)))); letI z6 := ([] : List (Option Blk)); ((Bool.true = Bool.true) ∧ ((z6 = z6) ∧ ((True ∧ (z4 = z4)) ∧ ((True ∧ (z3 = z3)) ∧ ((True ∧ (z5 = z5)) ∧ ((True ∧ (z0 = z0)) ∧ ((True ∧ (z2 = z2)) ∧ ((True ∧ (z1 = z1)) ∧ True))))))))) (by kernel_rfl) ?_; simp
    · simp only [decide_eq_false_iff_not] at h2
      rw [decide_eq_true (show x = 0 by omega), cond_true, List.nil_append] at st
      have ll := congrArg List.length st
      simp only [List.length_append] at ll
      refine pcond_intro (fun h3 => ?_) (fun h3 => ?_)
      · rw [h3, cond_true] at ewd
        have lw := congrArg List.length ewd
        simp only [List.length_append, List.length_cons, List.length_nil] at lw
        have e1 : z.2 ++ wsA (u.ws.take x) true ++ [34] ++ t ++ [34] = z.2 ++ wsA (u.ws.take (x + 1)) true := by rw [st, ewd]; simp
        refine ⟨?_, ?_, ?_, x + 1, [], by omega, ⟨hz, by omega, hsz⟩, ?_⟩
        · simp only [List.length_append]; omega
        · simp only [List.length_append, List.length_cons, List.length_nil]; omega
        · simp only [List.length_append, List.length_cons, List.length_nil]; omega
        · rw [e1]
          refine of_eq (B := letI z0 := (D.v (Value.string (bs ((Prod.snd z) ++ (wsA (List.take (x + (1 : Nat)) (Itm.ws u)) Bool.true))))); letI z1 := (D.v (Value.int IntKind.i64 (((x + (1 : Nat)) : Nat) : Int))); letI z2 := (D.v (Value.int IntKind.i64 (((Prod.fst z) : Nat) : Int))); letI z3 := (D.v (Value.int IntKind.i64 ((d : Nat) : Int))); letI z4 := (D.ro (List.length l) (itemsD l)); letI z5 := (D.v (Value.string (bs (blk d)))); letI z6 := ([] : List (Option Blk)); ((Bool.true = Bool.true) ∧ ((z6 = z6) ∧ ((True ∧ (z4 = z4)) ∧ ((True ∧ (z3 = z3)) ∧ ((True ∧ (z5 = z5)) ∧ ((True ∧ (z0 = z0)) ∧ ((True ∧ (z2 = z2)) ∧ ((True ∧ (z1 = z1)) ∧ True))))))))) (by kernel_rfl) ?_; simp
      · rw [h3, cond_false] at ewd
        have lw := congrArg List.length ewd
        have e1 : z.2 ++ wsA (u.ws.take x) true ++ t = z.2 ++ wsA (u.ws.take (x + 1)) true := by rw [st, ewd]; simp
        refine ⟨?_, x + 1, [], by omega, ⟨hz, by omega, hsz⟩, ?_⟩
        · simp only [List.length_append]; omega
        · rw [e1]
          refine of_eq (B := letI z0 := (D.v (Value.string (bs ((Prod.snd z) ++ (wsA (List.take (x + (1 : Nat)) (Itm.ws u)) Bool.true))))); letI z1 := (D.v (Value.int IntKind.i64 (((x + (1 : Nat)) : Nat) : Int))); letI z2 := (D.v (Value.int IntKind.i64 (((Prod.fst z) : Nat) : Int))); letI z3 := (D.v (Value.int IntKind.i64 ((d : Nat) : Int))); letI z4 := (D.ro (List.length l) (itemsD l)); letI z5 := (D.v (Value.string (bs (blk d)))); letI z6 := ([] : List (Option Blk)); ((Bool.true = Bool.true) ∧ ((z6 = z6) ∧ ((True ∧ (z4 = z4)) ∧ ((True ∧ (z3 = z3)) ∧ ((True ∧ (z5 = z5)) ∧ ((True ∧ (z0 = z0)) ∧ ((True ∧ (z2 = z2)) ∧ ((True ∧ (z1 = z1)) ∧ True))))))))) (by kernel_rfl) ?_; simp
  · simp only [decide_eq_false_iff_not] at h1
    have e : u.ws.take x = u.ws := List.take_of_length_le (by omega)
    rw [e]
    refine ⟨(), [], ?_⟩
    refine of_eq (B := letI z0 := (D.v (Value.string (bs ((Prod.snd z) ++ (wsA (Itm.ws u) Bool.true))))); letI z1 := (D.v (Value.int IntKind.i64 (((Prod.fst z) : Nat) : Int))); letI z2 := (D.v (Value.int IntKind.i64 ((d : Nat) : Int))); letI z3 := (D.ro (List.length l) (itemsD l)); letI z4 := (D.v (Value.string (bs (blk d)))); letI z5 := ([] : List (Option Blk)); ((Bool.true = Bool.true) ∧ ((z5 = z5) ∧ ((True ∧ (z3 = z3)) ∧ ((True ∧ (z2 = z2)) ∧ ((True ∧ (z4 = z4)) ∧ ((True ∧ (z0 = z0)) ∧ ((True ∧ (z1 = z1)) ∧ True)))))))) (by kernel_rfl) ?_; simp
def lp_rfmtOut (l : List Itm) (d h : Nat) : LoopO := loopRule (α := Nat) (β := Unit) [] (fun i => i ≤ l.length) (fun i => [(0, .ro l.length (itemsD l)), (1, .v (.int .i64 (d : Int))), (5, .v (.string (bs (blk d)))), (7, .v (.string (bs (fmtL (l.take i) (blk d))))), (8, .v (.int .i64 (i : Int)))]) (fun i => []) (0) (fun _ => True) (fun _ => (.exit 2, [(7, .v (.string (bs (fmtL l (blk d)))))], []))
theorem rfmtOut_rule (l : List Itm) (d h : Nat) (hpre : RfmtIH h ∧ hL l ≤ h ∧ (okL l ∧ l.length ≤ maxLen) ∧ d + hL l ≤ 100 ∧ (fmtL l (blk d)).length ≤ 140737488355328) : LRuleP Try.prog Try.f22.ntmps (loopAt ((Try.f22.body).getD .skip) 8) (lp_rfmtOut l d h) := by
  refine lrule_of (α := Nat) (β := Unit) (call := (addPure 22 (ent_rfmtR h) noCalls)) (lp := fun k => bif Nat.beq k 12 then some (exLoop (fun p : Nat × List UInt8 => lp_rfmtIn l d p)) else none) (N := 10) T_ok mixed (addPure_ok (ent_rfmtR_ok h hpre.1) noCalls_ok) (fun i => l.length - i) (by kernel_rfl) (of_eq (B := LRuleP Try.prog Try.f22.ntmps (loopAt (loopAt ((Try.f22.body).getD .skip) 8) 12) (exLoop (fun p : Nat × List UInt8 => lp_rfmtIn l d p)) ∧ True) (by kernel_rfl) ⟨exLoop_rule (fun p : Nat × List UInt8 => rfmtIn_rule l d p (hpre.2.2.1)), trivial⟩) ?_
  intro x hJ
  refine of_eq (B := letI z0 := (IntKind.wrap IntKind.i64 (((d : Nat) : Int) + (1 : Int))); letI z1 := (D.v (Value.int IntKind.i64 ((d : Nat) : Int))); letI z2 := (ByteArray.mk (Array.mk [(32 : UInt8), (123 : UInt8), (10 : UInt8)])); letI z3 := List.length l; letI z4 := ([] : List (Option Blk)); letI z5 := (D.v (Value.string (bs (blk d)))); letI z6 := (9223372036854775807 : Int); letI z15 := (D.ro z3 (itemsD l)); letI z7 := (Prod.mk (0 : Nat) z15); letI z14 := (Exit.exit (2 : Nat)); letI z8 := (Prod.mk z14 (Prod.mk [(Prod.mk (7 : Nat) (D.v (Value.string (bs (fmtL l (blk d))))))] z4)); letI z9 := (blk (Int.toNat z0)); letI z10 := (bs (fmtL (List.take x l) (blk d))); letI z11 := (Prod.mk (1 : Nat) z1); letI z12 := (Prod.mk (5 : Nat) z5); letI z13 := (D.v (Value.int IntKind.i64 (0 : Int))); letI z16 := (List (Option Nat)); letI z17 := ((z3 : Nat) : Int); letI z18 := (ByteArray.size (bs (blk d))); letI z19 := (List.length (itemsD l)); letI z20 := (140737488355328 : Nat); (True ∧ (True ∧ (True ∧ (True ∧ (pcond (Decidable.decide (((x : Nat) : Int) < z17)) (True ∧ (True ∧ ((((((ByteArray.size z10) + z18) : Nat) : Int) ≤ z6) ∧ (True ∧ (True ∧ (∃ (a : (Prod Nat (List UInt8))), ((((Prod.fst a) < z3) ∧ (((0 : Nat) ≤ (List.length (Itm.ws (List.getD l (Prod.fst a) (Inhabited.default))))) ∧ (((List.length (Prod.snd a)) + (List.length (wsA (Itm.ws (List.getD l (Prod.fst a) (Inhabited.default))) Bool.true))) ≤ z20))) ∧ (((Bool.true = Bool.true) ∧ ((z4 = z4) ∧ ((True ∧ (z15 = z15)) ∧ ((True ∧ (z1 = z1)) ∧ ((True ∧ (z5 = z5)) ∧ ((True ∧ ((D.v (Value.string (z10 ++ (bs (blk d))))) = (D.v (Value.string (bs ((Prod.snd a) ++ (wsA ([] : List Wd) Bool.true))))))) ∧ ((True ∧ ((D.v (Value.int IntKind.i64 ((x : Nat) : Int))) = (D.v (Value.int IntKind.i64 (((Prod.fst a) : Nat) : Int))))) ∧ ((True ∧ (z13 = z13)) ∧ True)))))))) ∧ (Unit → (True → (True ∧ (True ∧ ((((0 : Int) ≤ (((Prod.fst a) : Nat) : Int)) ∧ ((((Prod.fst a) : Nat) : Int) < z17)) ∧ (True ∧ ((((((Int.toNat (((Prod.fst a) : Nat) : Int)) * (4 : Nat)) + (2 : Nat)) < z19) ∧ (IsBool (List.getD (itemsD l) (((Int.toNat (((Prod.fst a) : Nat) : Int)) * (4 : Nat)) + (2 : Nat)) (Inhabited.default)))) ∧ (True ∧ (pcond (!(cellBool (List.getD (itemsD l) (((Int.toNat (((Prod.fst a) : Nat) : Int)) * (4 : Nat)) + (2 : Nat)) (Inhabited.default)))) (True ∧ ((((((ByteArray.size (bs ((Prod.snd a) ++ (wsA (Itm.ws (List.getD l (Prod.fst a) (Inhabited.default))) Bool.true)))) + (2 : Nat)) : Nat) : Int) ≤ z6) ∧ (True ∧ (True ∧ (True ∧ (True ∧ (∃ (y : Nat), (∃ (kp : z16), (((z3 - y) < (z3 - x)) ∧ ((y ≤ z3) ∧ (viewAll kp [z7, z11, z12, (Prod.mk (7 : Nat) (D.v (Value.string ((bs ((Prod.snd a) ++ (wsA (Itm.ws (List.getD l (Prod.fst a) (Inhabited.default))) Bool.true))) ++ (ByteArray.mk (Array.mk [(59 : UInt8), (10 : UInt8)])))))), (Prod.mk (8 : Nat) (D.v (Value.int IntKind.i64 (IntKind.wrap IntKind.i64 ((((Prod.fst a) : Nat) : Int) + (1 : Int))))))] z4 [z7, z11, z12, (Prod.mk (7 : Nat) (D.v (Value.string (bs (fmtL (List.take y l) (blk d)))))), (Prod.mk (8 : Nat) (D.v (Value.int IntKind.i64 ((y : Nat) : Int))))] z4))))))))))) (True ∧ ((((((ByteArray.size (bs ((Prod.snd a) ++ (wsA (Itm.ws (List.getD l (Prod.fst a) (Inhabited.default))) Bool.true)))) + (3 : Nat)) : Nat) : Int) ≤ z6) ∧ (True ∧ (True ∧ ((((0 : Int) ≤ (((Prod.fst a) : Nat) : Int)) ∧ ((((Prod.fst a) : Nat) : Int) < z17)) ∧ (True ∧ ((((((Int.toNat (((Prod.fst a) : Nat) : Int)) * (4 : Nat)) + (3 : Nat)) < z19) ∧ (IsSl (List.getD (itemsD l) (((Int.toNat (((Prod.fst a) : Nat) : Int)) * (4 : Nat)) + (3 : Nat)) (Inhabited.default)))) ∧ (True ∧ (True ∧ ((((IOk (cellN (List.getD (itemsD l) (((Int.toNat (((Prod.fst a) : Nat) : Int)) * (4 : Nat)) + (3 : Nat)) (Inhabited.default))) (cellL (List.getD (itemsD l) (((Int.toNat (((Prod.fst a) : Nat) : Int)) * (4 : Nat)) + (3 : Nat)) (Inhabited.default)))) ∧ ((hL (unI (cellL (List.getD (itemsD l) (((Int.toNat (((Prod.fst a) : Nat) : Int)) * (4 : Nat)) + (3 : Nat)) (Inhabited.default))))) < h)) ∧ ((((0 : Int) ≤ z0) ∧ ((z0 + (((hL (unI (cellL (List.getD (itemsD l) (((Int.toNat (((Prod.fst a) : Nat) : Int)) * (4 : Nat)) + (3 : Nat)) (Inhabited.default))))) : Nat) : Int)) ≤ (100 : Int))) ∧ ((List.length (fmtL (unI (cellL (List.getD (itemsD l) (((Int.toNat (((Prod.fst a) : Nat) : Int)) * (4 : Nat)) + (3 : Nat)) (Inhabited.default)))) z9)) ≤ z20))) ∧ ((((((ByteArray.size ((bs ((Prod.snd a) ++ (wsA (Itm.ws (List.getD l (Prod.fst a) (Inhabited.default))) Bool.true))) ++ z2)) + (ByteArray.size (bs (fmtL (unI (cellL (List.getD (itemsD l) (((Int.toNat (((Prod.fst a) : Nat) : Int)) * (4 : Nat)) + (3 : Nat)) (Inhabited.default)))) z9)))) : Nat) : Int) ≤ z6) ∧ (True ∧ ((((((ByteArray.size (((bs ((Prod.snd a) ++ (wsA (Itm.ws (List.getD l (Prod.fst a) (Inhabited.default))) Bool.true))) ++ z2) ++ (bs (fmtL (unI (cellL (List.getD (itemsD l) (((Int.toNat (((Prod.fst a) : Nat) : Int)) * (4 : Nat)) + (3 : Nat)) (Inhabited.default)))) z9)))) + z18) : Nat) : Int) ≤ z6) ∧ ((((((ByteArray.size ((((bs ((Prod.snd a) ++ (wsA (Itm.ws (List.getD l (Prod.fst a) (Inhabited.default))) Bool.true))) ++ z2) ++ (bs (fmtL (unI (cellL (List.getD (itemsD l) (((Int.toNat (((Prod.fst a) : Nat) : Int)) * (4 : Nat)) + (3 : Nat)) (Inhabited.default)))) z9))) ++ (bs (blk d)))) + (2 : Nat)) : Nat) : Int) ≤ z6) ∧ (True ∧ (True ∧ (True ∧ (True ∧ (∃ (y : Nat), (∃ (kp : z16), (((z3 - y) < (z3 - x)) ∧ ((y ≤ z3) ∧ (viewAll kp [z7, z11, z12, (Prod.mk (7 : Nat) (D.v (Value.string (((((bs ((Prod.snd a) ++ (wsA (Itm.ws (List.getD l (Prod.fst a) (Inhabited.default))) Bool.true))) ++ z2) ++ (bs (fmtL (unI (cellL (List.getD (itemsD l) (((Int.toNat (((Prod.fst a) : Nat) : Int)) * (4 : Nat)) + (3 : Nat)) (Inhabited.default)))) z9))) ++ (bs (blk d))) ++ (ByteArray.mk (Array.mk [(125 : UInt8), (10 : UInt8)])))))), (Prod.mk (8 : Nat) (D.v (Value.int IntKind.i64 (IntKind.wrap IntKind.i64 ((((Prod.fst a) : Nat) : Int) + (1 : Int))))))] z4 [z7, z11, z12, (Prod.mk (7 : Nat) (D.v (Value.string (bs (fmtL (List.take y l) (blk d)))))), (Prod.mk (8 : Nat) (D.v (Value.int IntKind.i64 ((y : Nat) : Int))))] z4)))))))))))))))))))))))))))))))))))))))) (∃ (r : Unit), (∃ (kp : z16), (True ∧ ((z14 = z14) ∧ (viewAll kp [(Prod.mk (7 : Nat) (D.v (Value.string z10)))] z4 (Prod.fst (Prod.snd ((fun (x_1 : Unit) => z8) r))) (Prod.snd (Prod.snd ((fun (x_1 : Unit) => z8) r)))))))))))))) (by kernel_rfl) ?_
  simp only [true_and, and_true, and_self, IsInt_lit, IsBool_lit, IsStr_lit, IsSl_lit, cellN_lit, cellL_lit, Bool.not_eq_true', Bool.not_eq_false', Bool.not_true, Bool.not_false, Int.reduceLE, Int.reduceLT, Int.reduceNeg, Nat.le_refl, Int.le_refl, Nat.reduceLT, Nat.reduceLeDiff, Nat.reduceEqDiff, D.v.injEq, D.tup.injEq, D.agg.injEq, D.ro.injEq, List.cons.injEq, Value.int.injEq, Value.bool.injEq, pcond_true, pcond_false, NamelessL, Nameless, Nat.reduceMul, Nat.reduceAdd, Nat.zero_add, Int.toNat_natCast] at *
  obtain ⟨ih, hh, ⟨ho, hlm⟩, hd, hsz⟩ := hpre
  simp only [maxLen] at hlm
  refine pcond_intro (fun h1 => ?_) (fun h1 => ?_)
  · simp only [decide_eq_true_eq] at h1
    have hxl : x < l.length := by omega
    obtain ⟨g0, g1, g2, g3⟩ := itemsD_get l x hxl
    have hlen := itemsD_length l
    have ox := okL_get l x ho hxl
    obtain ⟨o1, o2, o3, o4⟩ := okI_parts ox
    have hlt := hL_get l x hxl
    have hi : IntKind.i64.wrap ((x : Int) + 1) = ((x + 1 : Nat) : Int) := by rw [wrap_i64_of (by omega) (by omega)]; omega
    have hdd : IntKind.i64.wrap ((d : Int) + 1) = ((d + 1 : Nat) : Int) := by rw [wrap_i64_of (by omega) (by omega)]; omega
    have st := fmt_step hxl (blk d)
    have le := fmt_le l (x + 1) (blk d)
    have fe := fmtI_eq (l.getD x default) (blk d)
    rw [← blk_succ] at fe
    have lst := congrArg List.length st
    have lfe := congrArg List.length fe
    simp only [List.length_append] at lst lfe
    simp only [g0, g1, g2, g3, cellInt_lit, cellN_lit, cellL_lit, cellBool_lit, IsInt_lit, IsSl_lit, IsBool_lit, WOk_lit, IOk_lit, unW_wordsD, unI_itemsD, mk_eta, hi, hdd, Int.toNat_natCast, lit, bs_app, bs_size]
    refine ⟨?_, ⟨x, fmtL (l.take x) (blk d) ++ blk d⟩, ⟨hxl, Nat.zero_le _, ?_⟩, ?_, fun _ _ => ?_⟩
    · first | omega | (simp only [List.length_append]; omega)
    · simp only [List.length_append]; omega
    · exact ⟨by simp [wsA], rfl⟩
    · simp only [g0, g1, g2, g3, cellInt_lit, cellN_lit, cellL_lit, cellBool_lit, IsInt_lit, IsSl_lit, IsBool_lit, WOk_lit, IOk_lit, unW_wordsD, unI_itemsD, hi]
      obtain ⟨p, hp⟩ : ∃ p, p = fmtL (l.take x) (blk d) ++ blk d := ⟨_, rfl⟩
      rw [← hp]
      have hpl := congrArg List.length hp
      simp only [List.length_append] at hpl
      generalize l.getD x default = u at *
      refine ⟨by omega, ⟨by omega, trivial⟩, pcond_intro (fun h2 => ?_) (fun h2 => ?_)⟩
      · have h2 : u.bl = false := by simpa using h2
        rw [h2] at fe lfe
        simp only [cond_false, List.length_cons, List.length_nil] at fe lfe
        have e1 : p ++ wsA u.ws true ++ [59, 10] = fmtL (l.take (x + 1)) (blk d) := by rw [st, hp, fe]; simp
        refine ⟨?_, x + 1, [], by omega, by omega, ?_⟩
        · simp only [List.length_append]; omega
        · rw [e1]
          refine of_eq (B := letI z0 := (D.v (Value.string (bs (fmtL (List.take (x + (1 : Nat)) l) (blk d))))); letI z1 := (D.v (Value.int IntKind.i64 (((x + (1 : Nat)) : Nat) : Int))); letI z2 := (D.v (Value.int IntKind.i64 ((d : Nat) : Int))); letI z3 := (D.ro (List.length l) (itemsD l)); letI z4 := (D.v (Value.string (bs (blk d)))); letI z5 := ([] : List (Option Blk)); ((Bool.true = Bool.true) ∧ ((z5 = z5) ∧ ((True ∧ (z3 = z3)) ∧ ((True ∧ (z2 = z2)) ∧ ((True ∧ (z4 = z4)) ∧ ((True ∧ (z0 = z0)) ∧ ((True ∧ (z1 = z1)) ∧ True)))))))) (by kernel_rfl) ?_; simp
      · have h2 : u.bl = true := by simpa using h2
        rw [h2] at fe lfe
        simp only [cond_true, List.length_append, List.length_cons, List.length_nil] at fe lfe
        have e1 : p ++ wsA u.ws true ++ [32, 123, 10] ++ fmtL u.ks (blk (d + 1)) ++ blk d ++ [125, 10] = fmtL (l.take (x + 1)) (blk d) := by rw [st, hp, fe]; simp
        refine ⟨?_, by omega, ⟨by omega, trivial⟩, ⟨⟨⟨o2, o4⟩, by omega⟩, ⟨by omega, by omega⟩, by omega⟩, ?_, ?_, ?_, x + 1, [], by omega, by omega, ?_⟩
        · simp only [List.length_append]; omega
        · simp only [List.length_append, List.length_cons, List.length_nil]; omega
        · simp only [List.length_append, List.length_cons, List.length_nil]; omega
        · simp only [List.length_append, List.length_cons, List.length_nil]; omega
        · rw [e1]
          refine of_eq (B := letI z0 := (D.v (Value.string (bs (fmtL (List.take (x + (1 : Nat)) l) (blk d))))); letI z1 := (D.v (Value.int IntKind.i64 (((x + (1 : Nat)) : Nat) : Int))); letI z2 := (D.v (Value.int IntKind.i64 ((d : Nat) : Int))); letI z3 := (D.ro (List.length l) (itemsD l)); letI z4 := (D.v (Value.string (bs (blk d)))); letI z5 := ([] : List (Option Blk)); ((Bool.true = Bool.true) ∧ ((z5 = z5) ∧ ((True ∧ (z3 = z3)) ∧ ((True ∧ (z2 = z2)) ∧ ((True ∧ (z4 = z4)) ∧ ((True ∧ (z0 = z0)) ∧ ((True ∧ (z1 = z1)) ∧ True)))))))) (by kernel_rfl) ?_; simp
  · simp only [decide_eq_false_iff_not] at h1
    have e : l.take x = l := List.take_of_length_le (by omega)
    rw [e]
    refine ⟨(), [], ?_⟩
    refine of_eq (B := letI z0 := (D.v (Value.string (bs (fmtL l (blk d))))); letI z1 := ([] : List (Option Blk)); ((Bool.true = Bool.true) ∧ ((z1 = z1) ∧ ((True ∧ (z0 = z0)) ∧ True)))) (by kernel_rfl) ?_; simp
theorem rfmt_pure (l : List Itm) (d h : Nat) (hpre : RfmtIH h ∧ hL l ≤ h ∧ (okL l ∧ l.length ≤ maxLen) ∧ d + hL l ≤ 100 ∧ (fmtL l (blk d)).length ≤ 140737488355328) : PureJ Try.prog 22 [.ro l.length (itemsD l), .v (.int .i64 (d : Int))] (.v (.string (bs (fmtL l (blk d))))) := by
  refine pureJ_of_vcp (call := noCalls) (lp := fun k => bif Nat.beq k 3 then some (lp_rfmtBlank l d) else bif Nat.beq k 8 then some (lp_rfmtOut l d h) else none) (N := 10) T_ok mixed noCalls_ok Try.func22 rfl (by decide) (by kernel_rfl) (by kernel_rfl) (of_eq (B := letI z0 := ((Try.f22.body).getD .skip); LRuleP Try.prog Try.f22.ntmps (loopAt z0 3) (lp_rfmtBlank l d) ∧ LRuleP Try.prog Try.f22.ntmps (loopAt z0 8) (lp_rfmtOut l d h) ∧ True ∧ True) (by kernel_rfl) ⟨rfmtBlank_rule l d (hpre.2.2.2.1), ⟨rfmtOut_rule l d h hpre, ⟨trivial, trivial⟩⟩⟩) (by first | exact ⟨itemsD_nl l, trivial, trivial⟩ | trivial | simp [NamelessL, Nameless]) (by first | exact ⟨itemsD_nl l, trivial, trivial⟩ | trivial | simp [NamelessL, Nameless]) ?_
  refine of_eq (B := letI z0 := (D.v (Value.int IntKind.i64 ((d : Nat) : Int))); letI z1 := (D.v (Value.int IntKind.i64 (0 : Int))); letI z2 := (D.ro (List.length l) (itemsD l)); letI z3 := ([] : List (Option Blk)); letI z4 := (D.v (Value.string (ByteArray.mk (Array.mk ([] : List UInt8))))); letI z5 := (D.v (Value.string (bs (fmtL l (blk d))))); letI z6 := (D.v (Value.string (bs (blk d)))); letI z7 := ((True ∧ (z1 = z1)) ∧ True); letI z8 := Bool.true = Bool.true; letI z9 := (True ∧ (z2 = z2)); letI z10 := (True ∧ (z0 = z0)); (True ∧ (True ∧ (True ∧ (((0 : Nat) ≤ d) ∧ ((z8 ∧ ((z3 = z3) ∧ (z9 ∧ (z10 ∧ ((True ∧ (z4 = (D.v (Value.string (bs (blk (0 : Nat))))))) ∧ z7))))) ∧ (Unit → (True → (True ∧ (True ∧ (((0 : Nat) ≤ (List.length l)) ∧ ((z8 ∧ ((z3 = z3) ∧ (z9 ∧ (z10 ∧ ((True ∧ (z6 = z6)) ∧ ((True ∧ (z4 = (D.v (Value.string (bs (fmtL ([] : List Itm) (blk d))))))) ∧ z7)))))) ∧ (Unit → (True → (True ∧ (True ∧ (True ∧ (True ∧ (z5 = z5))))))))))))))))))) (by kernel_rfl) ?_
  simp only [true_and, and_true, and_self, IsInt_lit, IsBool_lit, IsStr_lit, IsSl_lit, cellN_lit, cellL_lit, Bool.not_eq_true', Bool.not_eq_false', Bool.not_true, Bool.not_false, Int.reduceLE, Int.reduceLT, Int.reduceNeg, Nat.le_refl, Int.le_refl, Nat.reduceLT, Nat.reduceLeDiff, Nat.reduceEqDiff, D.v.injEq, D.tup.injEq, D.agg.injEq, D.ro.injEq, List.cons.injEq, Value.int.injEq, Value.bool.injEq, pcond_true, pcond_false, NamelessL, Nameless, Nat.reduceMul, Nat.reduceAdd, Nat.zero_add, Int.toNat_natCast]
  exact ⟨Nat.zero_le _, rfl, fun _ _ => ⟨Nat.zero_le _, rfl, fun _ _ => trivial⟩⟩
theorem rfmt_all : ∀ h, RfmtIH h := by
  intro h
  induction h with
  | zero => intro l d hl; omega
  | succ h ih => intro l d h1 h2 h3 h4; exact rfmt_pure l d h ⟨ih, by omega, h2, h3, h4⟩
theorem wordE_size {s : ByteArray} {q : Bool} (h : wordE s q = 0) : s.size ≤ 120 := by
  unfold wordE at h
  by_cases h1 : 120 < s.size
  · rw [decide_eq_true h1] at h; simp at h
  · omega
theorem wsA_size : ∀ (ws : List Wd) (b : Bool), wordsE ws = 0 → (wsA ws b).length ≤ 123 * ws.length
  | [], b, _ => by simp [wsA]
  | w :: r, b, h => by
    rw [wordsE] at h
    by_cases h1 : wordE w.t w.q = 0
    · rw [decide_eq_true h1] at h
      have ih := wsA_size r false h
      have hs := wordE_size h1
      have hw : (wdT w).length ≤ 122 := by
        unfold wdT
        cases w.q <;> simp only [cond_true, cond_false, List.length_cons, List.length_append, List.length_nil] <;> rw [← size_list] <;> omega
      have hb : (bif b then [] else [32] : List UInt8).length ≤ 1 := by cases b <;> simp
      simp only [wsA, List.length_append, List.length_cons]
      omega
    · rw [decide_eq_false h1] at h; exact absurd h h1
theorem itemE_size {x : Itm} (h : itemE x = 0) : (wsA x.ws true).length ≤ 4920 := by
  unfold itemE at h
  by_cases h1 : (decide (x.ws.length = 0) || !headB (x.ws.getD 0 default).t (x.ws.getD 0 default).q) = true
  · rw [h1] at h; simp at h
  · rw [Bool.eq_false_iff.2 h1] at h
    by_cases h2 : 40 < x.ws.length
    · rw [decide_eq_true h2] at h; simp at h
    · rw [decide_eq_false h2] at h
      by_cases h3 : wordsE x.ws = 0
      · have := wsA_size x.ws true h3; omega
      · rw [decide_eq_false h3] at h; simp at h; exact absurd h h3
mutual
theorem chkI_size : ∀ (x : Itm) (d c : Nat) (ind : List UInt8), ind.length = 2 * d → (chkI x d c).1 = 0 → hI x + d ≤ 5 ∧ c ≤ (chkI x d c).2 ∧ (fmtI x ind).length + 6000 * c ≤ 6000 * (chkI x d c).2
  | .mk l ws b ks, d, c, ind, hi, h => by
    rw [chkI] at h ⊢
    by_cases h1 : 600 ≤ c
    · rw [decide_eq_true h1] at h; simp at h
    · rw [decide_eq_false h1] at h ⊢
      by_cases h2 : 4 < d
      · rw [decide_eq_true h2] at h; simp at h
      · rw [decide_eq_false h2] at h ⊢
        by_cases h3 : itemE (.mk l ws b ks) = 0
        · rw [decide_eq_true h3] at h ⊢
          simp only [cond_false, Bool.not_true] at h ⊢
          obtain ⟨k1, k2, k3⟩ := chkL_size ks (d + 1) (c + 1) (ind ++ [32, 32]) (by rw [List.length_append]; simp; omega) (by omega) h
          have hw := itemE_size h3
          simp only [Itm.ws] at hw
          refine ⟨by rw [hI]; omega, by omega, ?_⟩
          rw [fmtI]
          cases b
          · simp only [cond_false, List.length_append, List.length_cons, List.length_nil]; omega
          · simp only [cond_true, List.length_append, List.length_cons, List.length_nil]; omega
        · rw [decide_eq_false h3] at h; simp at h; exact absurd h h3
theorem chkL_size : ∀ (l : List Itm) (d c : Nat) (ind : List UInt8), ind.length = 2 * d → d ≤ 5 → (chkL l d c).1 = 0 → hL l + d ≤ 5 ∧ c ≤ (chkL l d c).2 ∧ (fmtL l ind).length + 6000 * c ≤ 6000 * (chkL l d c).2
  | [], d, c, ind, hi, hd, h => by simp [hL, chkL, fmtL]; omega
  | x :: r, d, c, ind, hi, hd, h => by
    rw [chkL] at h ⊢
    by_cases h1 : (chkI x d c).1 = 0
    · rw [decide_eq_true h1] at h ⊢
      simp only [cond_true] at h ⊢
      obtain ⟨a1, a2, a3⟩ := chkI_size x d c ind hi h1
      obtain ⟨b1, b2, b3⟩ := chkL_size r d (chkI x d c).2 ind hi hd h
      refine ⟨by rw [hL]; omega, by omega, ?_⟩
      rw [fmtL, List.length_append]; omega
    · rw [decide_eq_false h1] at h; exact absurd h h1
end
theorem fmt_size {l : List Itm} (h : chkE l = 0) : hL l ≤ 5 ∧ (fmtL l []).length ≤ 3600000 := by
  obtain ⟨h1, h2, h3⟩ := chkL_size l 0 0 [] rfl (by omega) h
  have := chkL_le l 0 0 (by omega) h
  exact ⟨by omega, by omega⟩
theorem rFormat_pure (l : List Itm) (hpre : okL l ∧ l.length ≤ maxLen) : PureJ Try.prog 11 [.ro l.length (itemsD l)] (.v (.string (bs (fmtB l)))) := by
  refine pureJ_of_vcx (call := (addPure 9 ent_rCheck (addPure 22 (ent_rfmtR (hL l + 1)) noCalls))) (lp := fun _ => none) (N := 10) T_ok mixed (addPure_ok ent_rCheck_ok (addPure_ok (ent_rfmtR_ok (hL l + 1) (rfmt_all (hL l + 1))) noCalls_ok)) Try.func11 rfl (by decide) (by kernel_rfl) (by kernel_rfl) (LpAll.none _) (by first | exact ⟨itemsD_nl l, trivial⟩ | trivial | simp [NamelessL, Nameless]) (by first | exact ⟨itemsD_nl l, trivial⟩ | trivial | simp [NamelessL, Nameless]) ?_
  refine of_eq (B := letI z0 := (unI (itemsD l)); letI z1 := (D.v (Value.string (bs (fmtB l)))); letI z2 := (IOk (List.length l) (itemsD l)); letI z3 := (fmtL z0 (blk (0 : Nat))); (True ∧ (True ∧ (z2 ∧ (True ∧ (pcond ((chkE z0) != (0 : Int)) (True ∧ (True ∧ (True ∧ ((D.v (Value.string (ByteArray.mk (Array.mk ([] : List UInt8))))) = z1)))) (True ∧ (((z2 ∧ ((hL z0) < ((hL l) + (1 : Nat)))) ∧ ((((0 : Int) ≤ (0 : Int)) ∧ (((0 : Int) + (((hL z0) : Nat) : Int)) ≤ (100 : Int))) ∧ ((List.length z3) ≤ (140737488355328 : Nat)))) ∧ (True ∧ (True ∧ (True ∧ ((D.v (Value.string (bs z3))) = z1)))))))))))) (by kernel_rfl) ?_
  simp only [true_and, and_true, and_self, IsInt_lit, IsBool_lit, IsStr_lit, IsSl_lit, cellN_lit, cellL_lit, Bool.not_eq_true', Bool.not_eq_false', Bool.not_true, Bool.not_false, Int.reduceLE, Int.reduceLT, Int.reduceNeg, Nat.le_refl, Int.le_refl, Nat.reduceLT, Nat.reduceLeDiff, Nat.reduceEqDiff, D.v.injEq, D.tup.injEq, D.agg.injEq, D.ro.injEq, List.cons.injEq, Value.int.injEq, Value.bool.injEq, pcond_true, pcond_false, NamelessL, Nameless, Nat.reduceMul, Nat.reduceAdd, Nat.zero_add, Int.toNat_natCast, IOk_lit, unI_itemsD]
  obtain ⟨ho, hlm⟩ := hpre
  unfold fmtB
  have hb : blk 0 = [] := rfl
  refine ⟨⟨hlm, ho⟩, pcond_intro (fun h1 => ?_) (fun h1 => ?_)⟩
  · rw [bne_iff_ne] at h1
    rw [decide_eq_false h1]; rfl
  · rw [bne_eq_false_iff_eq] at h1
    obtain ⟨k1, k2⟩ := fmt_size h1
    rw [decide_eq_true h1, hb]
    exact ⟨⟨⟨⟨hlm, ho⟩, Nat.lt_succ_self _⟩, by omega, by omega⟩, rfl⟩
def ent_rFormat : Ent := fun ds => match ds with
  | [.ro n ys] => some (.v (.string (bs (fmtB (unI ys)))), IOk n ys)
  | _ => none
theorem ent_rFormat_ok : EntOk Try.prog 11 ent_rFormat := by
  intro ds d c hd hc; unfold ent_rFormat at hd; split at hd
  · obtain ⟨rfl, rfl⟩ := pair_inj hd
    obtain ⟨⟨h1, h2⟩, h3, h4⟩ := hc
    rename_i n ys
    generalize unI ys = l at *
    subst h1; subst h2
    exact rFormat_pure l ⟨h4, h3⟩
  · cases hd
end Go.Proofs.Ytahiigfpikohgaa
end
