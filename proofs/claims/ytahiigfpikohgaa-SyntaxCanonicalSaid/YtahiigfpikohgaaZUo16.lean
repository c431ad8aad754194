import Derived.Test.YtahiigfpikohgaaZUo15
import Derived.Test.YtahiigfpikohgaaZUo12
import Derived.Test.YtahiigfpikohgaaZUo11
section
namespace Go.Proofs.Ytahiigfpikohgaa
open Go.VD
set_option linter.unusedVariables false
set_option linter.unusedSimpArgs false
set_option maxRecDepth 100000
def bs (l : List UInt8) : ByteArray := ⟨l.toArray⟩
theorem bs_app (a b : List UInt8) : bs a ++ bs b = bs (a ++ b) := by
  apply ByteArray.ext; apply Array.toList_inj.1; rw [ByteArray.data_append]; simp [bs]
theorem bs_of (s : ByteArray) : bs s.data.toList = s := by simp [bs]
theorem bs_size (l : List UInt8) : (bs l).size = l.length := by simp [bs, ByteArray.size]
def blk (d : Nat) : List UInt8 := List.replicate (2 * d) 32
theorem blk_succ (d : Nat) : blk (d + 1) = blk d ++ [32, 32] := by
  unfold blk; rw [show 2 * (d + 1) = 2 * d + 1 + 1 by omega, List.replicate_succ', List.replicate_succ', List.append_assoc]; rfl
theorem lit (l : List UInt8) : (⟨⟨l⟩⟩ : ByteArray) = bs l := rfl
theorem blk_length (d : Nat) : (blk d).length = 2 * d := by simp [blk]
def RfmtIH (h : Nat) : Prop := ∀ (l : List Itm) (d : Nat), hL l < h → (okL l ∧ l.length ≤ maxLen) → d + hL l ≤ 100 → (fmtL l (blk d)).length ≤ 140737488355328 →
  PureJ Try.prog 22 [.ro l.length (itemsD l), .v (.int .i64 (d : Int))] (.v (.string (bs (fmtL l (blk d)))))
def ent_rfmtR (h : Nat) : Ent := fun ds => match ds with
  | [.ro n ys, .v (.int .i64 d)] => some (.v (.string (bs (fmtL (unI ys) (blk d.toNat)))), (IOk n ys ∧ hL (unI ys) < h) ∧ (0 ≤ d ∧ d + hL (unI ys) ≤ 100) ∧ (fmtL (unI ys) (blk d.toNat)).length ≤ 140737488355328)
  | _ => none
theorem ent_rfmtR_ok (h : Nat) (ih : RfmtIH h) : EntOk Try.prog 22 (ent_rfmtR h) := by
  intro ds d0 c0 hd hc; unfold ent_rfmtR at hd; split at hd
  · rename_i n ys d
    obtain ⟨rfl, rfl⟩ := pair_inj hd
    obtain ⟨⟨⟨⟨h1, h2⟩, h3, h4⟩, hh⟩, ⟨d1, d2⟩, hs⟩ := hc
    generalize unI ys = l at *
    subst h1; subst h2
    obtain ⟨dn, rfl⟩ := Int.eq_ofNat_of_zero_le d1
    exact ih l dn hh ⟨h4, h3⟩ (by omega) hs
  · cases hd
def lp_rfmtBlank (l : List Itm) (d : Nat) : LoopO := loopRule (α := Nat) (β := Unit) [] (fun i => i ≤ d) (fun i => [(0, .ro l.length (itemsD l)), (1, .v (.int .i64 (d : Int))), (5, .v (.string (bs (blk i)))), (6, .v (.int .i64 (i : Int)))]) (fun i => []) (0) (fun _ => True) (fun _ => (.exit 0, [(0, .ro l.length (itemsD l)), (1, .v (.int .i64 (d : Int))), (5, .v (.string (bs (blk d))))], []))
theorem rfmtBlank_rule (l : List Itm) (d : Nat) (hpre : d + hL l ≤ 100) : LRuleP Try.prog Try.f22.ntmps (loopAt ((Try.f22.body).getD .skip) 3) (lp_rfmtBlank l d) := by
  refine lrule_of (α := Nat) (β := Unit) (call := noCalls) (lp := fun _ => none) (N := 10) T_ok mixed noCalls_ok (fun i => d - i) (by kernel_rfl) (LpAllP.none _) ?_
  intro x hJ
  refine of_eq (B := letI z0 := (Prod.mk (1 : Nat) (D.v (Value.int IntKind.i64 ((d : Nat) : Int)))); letI z1 := (Prod.mk (0 : Nat) (D.ro (List.length l) (itemsD l))); letI z4 := (Exit.exit (0 : Nat)); letI z3 := ([] : List (Option Blk)); letI z2 := (Prod.mk z4 (Prod.mk [z1, z0, (Prod.mk (5 : Nat) (D.v (Value.string (bs (blk d)))))] z3)); letI z5 := (List (Option Nat)); (True ∧ (True ∧ (True ∧ (pcond (Decidable.decide (((x : Nat) : Int) < ((d : Nat) : Int))) (True ∧ ((((((ByteArray.size (bs (blk x))) + (2 : Nat)) : Nat) : Int) ≤ (9223372036854775807 : Int)) ∧ (True ∧ (True ∧ (True ∧ (True ∧ (∃ (y : Nat), (∃ (kp : z5), (((d - y) < (d - x)) ∧ ((y ≤ d) ∧ (viewAll kp [z1, z0, (Prod.mk (5 : Nat) (D.v (Value.string ((bs (blk x)) ++ (ByteArray.mk (Array.mk [(32 : UInt8), (32 : UInt8)])))))), (Prod.mk (6 : Nat) (D.v (Value.int IntKind.i64 (IntKind.wrap IntKind.i64 (((x : Nat) : Int) + (1 : Int))))))] z3 [z1, z0, (Prod.mk (5 : Nat) (D.v (Value.string (bs (blk y))))), (Prod.mk (6 : Nat) (D.v (Value.int IntKind.i64 ((y : Nat) : Int))))] z3))))))))))) (∃ (r : Unit), (∃ (kp : z5), (True ∧ ((z4 = z4) ∧ (viewAll kp [z1, z0, (Prod.mk (5 : Nat) (D.v (Value.string (bs (blk x)))))] z3 (Prod.fst (Prod.snd ((fun (x_1 : Unit) => z2) r))) (Prod.snd (Prod.snd ((fun (x_1 : Unit) => z2) r))))))))))))) (by kernel_rfl) ?_
  simp only [true_and, and_true, and_self, IsInt_lit, IsBool_lit, IsStr_lit, IsSl_lit, cellN_lit, cellL_lit, Bool.not_eq_true', Bool.not_eq_false', Bool.not_true, Bool.not_false, Int.reduceLE, Int.reduceLT, Int.reduceNeg, Nat.le_refl, Int.le_refl, Nat.reduceLT, Nat.reduceLeDiff, Nat.reduceEqDiff, D.v.injEq, D.tup.injEq, D.agg.injEq, D.ro.injEq, List.cons.injEq, Value.int.injEq, Value.bool.injEq, pcond_true, pcond_false, NamelessL, Nameless, Nat.reduceMul, Nat.reduceAdd, Nat.zero_add, Int.toNat_natCast, lit, bs_app, ← blk_succ, bs_size, blk_length] at *
  refine pcond_intro (fun h1 => ?_) (fun h1 => ?_)
  · simp only [decide_eq_true_eq] at h1
    have hi : IntKind.i64.wrap ((x : Int) + 1) = ((x + 1 : Nat) : Int) := by rw [wrap_i64_of (by omega) (by omega)]; omega
    rw [hi]
    refine ⟨by omega, x + 1, [], by omega, by omega, ?_⟩
    refine of_eq (B := letI z0 := (D.v (Value.int IntKind.i64 (((x + (1 : Nat)) : Nat) : Int))); letI z1 := (D.v (Value.int IntKind.i64 ((d : Nat) : Int))); letI z2 := (D.v (Value.string (bs (blk (x + (1 : Nat)))))); letI z3 := (D.ro (List.length l) (itemsD l)); letI z4 := ([] : List (Option Blk)); ((Bool.true = Bool.true) ∧ ((z4 = z4) ∧ ((True ∧ (z3 = z3)) ∧ ((True ∧ (z1 = z1)) ∧ ((True ∧ (z2 = z2)) ∧ ((True ∧ (z0 = z0)) ∧ True))))))) (by kernel_rfl) ?_; simp
  · simp only [decide_eq_false_iff_not] at h1
    have e : x = d := by omega
    subst e
    refine ⟨(), [], ?_⟩
    refine of_eq (B := letI z0 := (D.v (Value.int IntKind.i64 ((x : Nat) : Int))); letI z1 := (D.ro (List.length l) (itemsD l)); letI z2 := (D.v (Value.string (bs (blk x)))); letI z3 := ([] : List (Option Blk)); ((Bool.true = Bool.true) ∧ ((z3 = z3) ∧ ((True ∧ (z1 = z1)) ∧ ((True ∧ (z0 = z0)) ∧ ((True ∧ (z2 = z2)) ∧ True)))))) (by kernel_rfl) ?_; simp
def lp_rfmtIn (l : List Itm) (d : Nat) (z : Nat × List UInt8) : LoopO := loopRule (α := Nat) (β := Unit) [] (fun j => z.1 < l.length ∧ j ≤ (l.getD z.1 default).ws.length ∧ z.2.length + (wsA (l.getD z.1 default).ws true).length ≤ 140737488355328) (fun j => [(0, .ro l.length (itemsD l)), (1, .v (.int .i64 (d : Int))), (5, .v (.string (bs (blk d)))), (7, .v (.string (bs (z.2 ++ wsA ((l.getD z.1 default).ws.take j) true)))), (8, .v (.int .i64 (z.1 : Int))), (9, .v (.int .i64 (j : Int)))]) (fun j => []) (0) (fun _ => True) (fun _ => (.exit 4, [(0, .ro l.length (itemsD l)), (1, .v (.int .i64 (d : Int))), (5, .v (.string (bs (blk d)))), (7, .v (.string (bs (z.2 ++ wsA (l.getD z.1 default).ws true)))), (8, .v (.int .i64 (z.1 : Int)))], []))
theorem rfmtIn_rule (l : List Itm) (d : Nat) (z : Nat × List UInt8) (hpre : okL l ∧ l.length ≤ maxLen) : LRuleP Try.prog Try.f22.ntmps (loopAt (loopAt ((Try.f22.body).getD .skip) 8) 12) (lp_rfmtIn l d z) := by
  refine lrule_of (α := Nat) (β := Unit) (call := noCalls) (lp := fun _ => none) (N := 10) T_ok mixed noCalls_ok (fun j => (l.getD z.1 default).ws.length - j) (by kernel_rfl) (LpAllP.none _) ?_
  intro x hJ
  refine of_eq (B := letI z15 := (((Prod.fst z) : Nat) : Int); letI z30 := (((Int.toNat z15) * (4 : Nat)) + (1 : Nat)); letI z0 := (List.getD (itemsD l) z30 (Inhabited.default)); letI z1 := (Itm.ws (List.getD l (Prod.fst z) (Inhabited.default))); letI z23 := ((x : Nat) : Int); letI z19 := ((Int.toNat z23) * (2 : Nat)); letI z29 := (List.getD (cellL z0) z19 (Inhabited.default)); letI z2 := (cellStr z29); letI z3 := (List.getD (cellL z0) (z19 + (1 : Nat)) (Inhabited.default)); letI z4 := (Prod.mk (8 : Nat) (D.v (Value.int IntKind.i64 z15))); letI z5 := (bs ((Prod.snd z) ++ (wsA (List.take x z1) Bool.true))); letI z6 := (Prod.mk (1 : Nat) (D.v (Value.int IntKind.i64 ((d : Nat) : Int)))); letI z33 := List.length l; letI z7 := (Prod.mk (0 : Nat) (D.ro z33 (itemsD l))); letI z8 := (Prod.mk (5 : Nat) (D.v (Value.string (bs (blk d))))); letI z9 := (Prod.mk (9 : Nat) (D.v (Value.int IntKind.i64 (IntKind.wrap IntKind.i64 (z23 + (1 : Int)))))); letI z35 := (D.v (Value.string z2)); letI z32 := (D.v (Value.bool (cellBool z3))); letI z10 := (Option.some (Blk.mk (51 : Nat) [z35, z32] Bool.true)); letI z11 := (((List.length (Prod.snd z)) + (List.length (wsA z1 Bool.true))) ≤ (140737488355328 : Nat)); letI z12 := (ByteArray.mk (Array.mk [(34 : UInt8)])); letI z13 := (z5 ++ (ByteArray.mk (Array.mk [(32 : UInt8)]))); letI z14 := (9223372036854775807 : Int); letI z16 := (((0 : Nat) < (2 : Nat)) ∧ (IsStr z35)); letI z31 := (Exit.exit (4 : Nat)); letI z20 := ([] : List (Option Blk)); letI z17 := (Prod.mk z31 (Prod.mk [z7, z6, z8, (Prod.mk (7 : Nat) (D.v (Value.string (bs ((Prod.snd z) ++ (wsA z1 Bool.true)))))), z4] z20)); letI z18 := List.length z1; letI z21 := ((Prod.fst z) < z33); letI z22 := ((z30 < (List.length (itemsD l))) ∧ (IsSl z0)); letI z24 := (((1 : Nat) < (2 : Nat)) ∧ (IsBool z32)); letI z25 := (List (Option Nat)); letI z26 := (((0 : Int) ≤ z15) ∧ (z15 < ((z33 : Nat) : Int))); letI z39 := ByteArray.size z5; letI z27 := ((((z39 + (1 : Nat)) : Nat) : Int) ≤ z14); letI z28 := ByteArray.size z2; letI z34 := (((cellN z0) : Nat) : Int); letI z36 := ByteArray.size z13; letI z37 := ((z13 ++ z12) ++ z2); letI z38 := ((z5 ++ z12) ++ z2); (True ∧ (True ∧ (True ∧ (z26 ∧ (True ∧ (z22 ∧ (True ∧ (True ∧ (pcond (Decidable.decide (z23 < z34)) (True ∧ (True ∧ (z26 ∧ (True ∧ (z22 ∧ (True ∧ ((((0 : Int) ≤ z23) ∧ (z23 < z34)) ∧ ((((z19 + (2 : Nat)) ≤ (List.length (cellL z0))) ∧ ((IsStr z29) ∧ ((IsBool z3) ∧ True))) ∧ (True ∧ ((((2 : Nat) = (2 : Nat)) ∧ ((2 : Nat) ≤ (2 : Nat))) ∧ (True ∧ (True ∧ (pcond (Decidable.decide ((0 : Int) < z23)) (True ∧ (z27 ∧ (True ∧ (True ∧ (z24 ∧ (pcond (cellBool z3) (True ∧ (((((z36 + (1 : Nat)) : Nat) : Int) ≤ z14) ∧ (True ∧ (z16 ∧ ((((((ByteArray.size (z13 ++ z12)) + z28) : Nat) : Int) ≤ z14) ∧ ((((((ByteArray.size z37) + (1 : Nat)) : Nat) : Int) ≤ z14) ∧ (True ∧ (True ∧ (True ∧ (True ∧ (∃ (y : Nat), (∃ (kp : z25), (((z18 - y) < (z18 - x)) ∧ ((z21 ∧ ((y ≤ z18) ∧ z11)) ∧ (viewAll kp [z7, z6, z8, (Prod.mk (7 : Nat) (D.v (Value.string (z37 ++ z12)))), z4, z9] [z10] [z7, z6, z8, (Prod.mk (7 : Nat) (D.v (Value.string (bs ((Prod.snd z) ++ (wsA (List.take y z1) Bool.true)))))), z4, (Prod.mk (9 : Nat) (D.v (Value.int IntKind.i64 ((y : Nat) : Int))))] z20))))))))))))))) (True ∧ (True ∧ (z16 ∧ (((((z36 + z28) : Nat) : Int) ≤ z14) ∧ (True ∧ (True ∧ (True ∧ (True ∧ (∃ (y : Nat), (∃ (kp : z25), (((z18 - y) < (z18 - x)) ∧ ((z21 ∧ ((y ≤ z18) ∧ z11)) ∧ (viewAll kp [z7, z6, z8, (Prod.mk (7 : Nat) (D.v (Value.string (z13 ++ z2)))), z4, z9] [z10] [z7, z6, z8, (Prod.mk (7 : Nat) (D.v (Value.string (bs ((Prod.snd z) ++ (wsA (List.take y z1) Bool.true)))))), z4, (Prod.mk (9 : Nat) (D.v (Value.int IntKind.i64 ((y : Nat) : Int))))] z20))))))))))))))))))) (True ∧ (z24 ∧ (pcond (cellBool z3) (True ∧ (z27 ∧ (True ∧ (z16 ∧ ((((((ByteArray.size (z5 ++ z12)) + z28) : Nat) : Int) ≤ z14) ∧ ((((((ByteArray.size z38) + (1 : Nat)) : Nat) : Int) ≤ z14) ∧ (True ∧ (True ∧ (True ∧ (True ∧ (∃ (y : Nat), (∃ (kp : z25), (((z18 - y) < (z18 - x)) ∧ ((z21 ∧ ((y ≤ z18) ∧ z11)) ∧ (viewAll kp [z7, z6, z8, (Prod.mk (7 : Nat) (D.v (Value.string (z38 ++ z12)))), z4, z9] [z10] [z7, z6, z8, (Prod.mk (7 : Nat) (D.v (Value.string (bs ((Prod.snd z) ++ (wsA (List.take y z1) Bool.true)))))), z4, (Prod.mk (9 : Nat) (D.v (Value.int IntKind.i64 ((y : Nat) : Int))))] z20))))))))))))))) (True ∧ (True ∧ (z16 ∧ (((((z39 + z28) : Nat) : Int) ≤ z14) ∧ (True ∧ (True ∧ (True ∧ (True ∧ (∃ (y : Nat), (∃ (kp : z25), (((z18 - y) < (z18 - x)) ∧ ((z21 ∧ ((y ≤ z18) ∧ z11)) ∧ (viewAll kp [z7, z6, z8, (Prod.mk (7 : Nat) (D.v (Value.string (z5 ++ z2)))), z4, z9] [z10] [z7, z6, z8, (Prod.mk (7 : Nat) (D.v (Value.string (bs ((Prod.snd z) ++ (wsA (List.take y z1) Bool.true)))))), z4, (Prod.mk (9 : Nat) (D.v (Value.int IntKind.i64 ((y : Nat) : Int))))] z20))))))))))))))))))))))))))))) (∃ (r : Unit), (∃ (kp : z25), (True ∧ ((z31 = z31) ∧ (viewAll kp [z7, z6, z8, (Prod.mk (7 : Nat) (D.v (Value.string z5))), z4] z20 (Prod.fst (Prod.snd ((fun (x_1 : Unit) => z17) r))) (Prod.snd (Prod.snd ((fun (x_1 : Unit) => z17) r)))))))))))))))))) (by kernel_rfl) ?_
  simp only [true_and, and_true, and_self, IsInt_lit, IsBool_lit, IsStr_lit, IsSl_lit, cellN_lit, cellL_lit, Bool.not_eq_true', Bool.not_eq_false', Bool.not_true, Bool.not_false, Int.reduceLE, Int.reduceLT, Int.reduceNeg, Nat.le_refl, Int.le_refl, Nat.reduceLT, Nat.reduceLeDiff, Nat.reduceEqDiff, D.v.injEq, D.tup.injEq, D.agg.injEq, D.ro.injEq, List.cons.injEq, Value.int.injEq, Value.bool.injEq, pcond_true, pcond_false, NamelessL, Nameless, Nat.reduceMul, Nat.reduceAdd, Nat.zero_add, Int.toNat_natCast] at *
  obtain ⟨ho, hlm⟩ := hpre
  obtain ⟨hz, hx, hsz⟩ := hJ
  have hu := okL_get l z.1 ho hz
  obtain ⟨g0, g1, g2, g3⟩ := itemsD_get l z.1 hz
  have hlen := itemsD_length l
  simp only [maxLen] at hlm
  generalize l.getD z.1 default = u at *
  obtain ⟨o1, o2, o3, o4⟩ := okI_parts hu
  simp only [maxLen] at o1
  simp only [g0, g1, g2, g3, cellInt_lit, cellN_lit, cellL_lit, cellBool_lit, IsInt_lit, IsSl_lit, IsBool_lit]
  refine ⟨by omega, ⟨by omega, trivial⟩, pcond_intro (fun h1 => ?_) (fun h1 => ?_)⟩
  · simp only [decide_eq_true_eq] at h1
    have hxl : x < u.ws.length := by omega
    obtain ⟨q0, q1⟩ := wordsD_get u.ws x hxl
    have l1 := wordsD_length u.ws
    have hi : IntKind.i64.wrap ((x : Int) + 1) = ((x + 1 : Nat) : Int) := by rw [wrap_i64_of (by omega) (by omega)]; omega
    have st := wsA_step hxl
    have le := wsA_le u.ws (x + 1)
    have ewd : wdT (u.ws.getD x default) = bif (u.ws.getD x default).q then 34 :: ((u.ws.getD x default).t.data.toList ++ [34]) else (u.ws.getD x default).t.data.toList := rfl
    obtain ⟨t, ht⟩ : ∃ t, (u.ws.getD x default).t = bs t := ⟨_, (bs_of _).symm⟩
    have htd : (bs t).data.toList = t := by simp [bs]
    rw [ht, htd] at ewd
    generalize hwt : wdT (u.ws.getD x default) = wt at *
    simp only [q0, q1, cellStr_lit, cellBool_lit, IsStr_lit, IsBool_lit, hi, ht, lit, bs_app, bs_size]
    refine ⟨by omega, ⟨by omega, trivial⟩, by omega, ⟨by omega, trivial, trivial⟩, pcond_intro (fun h2 => ?_) (fun h2 => ?_)⟩
    · simp only [decide_eq_true_eq] at h2
      rw [decide_eq_false (show ¬ x = 0 by omega), cond_false] at st
      have ll := congrArg List.length st
      simp only [List.length_append, List.length_cons, List.length_nil] at ll
      refine ⟨?_, pcond_intro (fun h3 => ?_) (fun h3 => ?_)⟩
      · rw [List.length_append]; omega
      · rw [h3, cond_true] at ewd
        have lw := congrArg List.length ewd
        simp only [List.length_append, List.length_cons, List.length_nil] at lw
        have e1 : z.2 ++ wsA (u.ws.take x) true ++ [32] ++ [34] ++ t ++ [34] = z.2 ++ wsA (u.ws.take (x + 1)) true := by rw [st, ewd]; simp
        refine ⟨?_, ?_, ?_, x + 1, [], by omega, ⟨hz, by omega, hsz⟩, ?_⟩
        · simp only [List.length_append, List.length_cons, List.length_nil]; omega
        · simp only [List.length_append, List.length_cons, List.length_nil]; omega
        · simp only [List.length_append, List.length_cons, List.length_nil]; omega
        · rw [e1]
          refine of_eq (B := letI z0 := (D.v (Value.string (bs ((Prod.snd z) ++ (wsA (List.take (x + (1 : Nat)) (Itm.ws u)) Bool.true))))); letI z1 := (D.v (Value.int IntKind.i64 (((x + (1 : Nat)) : Nat) : Int))); letI z2 := (D.v (Value.int IntKind.i64 (((Prod.fst z) : Nat) : Int))); letI z3 := (D.v (Value.int IntKind.i64 ((d : Nat) : Int))); letI z4 := (D.ro (List.length l) (itemsD l)); letI z5 := (D.v (Value.string (bs (blk d)))); letI z6 := ([] : List (Option Blk)); ((Bool.true = Bool.true) ∧ ((z6 = z6) ∧ ((True ∧ (z4 = z4)) ∧ ((True ∧ (z3 = z3)) ∧ ((True ∧ (z5 = z5)) ∧ ((True ∧ (z0 = z0)) ∧ ((True ∧ (z2 = z2)) ∧ ((True ∧ (z1 = z1)) ∧ True))))))))) (by kernel_rfl) ?_; simp
      · rw [h3, cond_false] at ewd
        have lw := congrArg List.length ewd
        have e1 : z.2 ++ wsA (u.ws.take x) true ++ [32] ++ t = z.2 ++ wsA (u.ws.take (x + 1)) true := by rw [st, ewd]; simp
        refine ⟨?_, x + 1, [], by omega, ⟨hz, by omega, hsz⟩, ?_⟩
        · simp only [List.length_append, List.length_cons, List.length_nil]; omega
        · rw [e1]
          refine of_eq (B := letI z0 := (D.v (Value.string (bs ((Prod.snd z) ++ (wsA (List.take (x + (1 : Nat)) (Itm.ws u)) Bool.true))))); letI z1 := (D.v (Value.int IntKind.i64 (((x + (1 : Nat)) : Nat) : Int))); letI z2 := (D.v (Value.int IntKind.i64 (((Prod.fst z) : Nat) : Int))); letI z3 := (D.v (Value.int IntKind.i64 ((d : Nat) : Int))); letI z4 := (D.ro (List.length l) (itemsD l)); letI z5 := (D.v (Value.string (bs (blk d)))); letI z6 := ([] : List (Option Blk)); ((Bool.true = Bool.true) ∧ ((z6 = z6) ∧ ((True ∧ (z4 = z4)) ∧ ((True ∧ (z3 = z3)) ∧ ((True ∧ (z5 = z5)) ∧ ((True ∧ (z0 = z0)) ∧ ((True ∧ (z2 = z2)) ∧ ((True ∧ (z1 = z1)) ∧ True))))))))) (by kernel_rfl) ?_; simp
    · simp only [decide_eq_false_iff_not] at h2
      rw [decide_eq_true (show x = 0 by omega), cond_true, List.nil_append] at st
      have ll := congrArg List.length st
      simp only [List.length_append] at ll
      refine pcond_intro (fun h3 => ?_) (fun h3 => ?_)
      · rw [h3, cond_true] at ewd
        have lw := congrArg List.length ewd
        simp only [List.length_append, List.length_cons, List.length_nil] at lw
        have e1 : z.2 ++ wsA (u.ws.take x) true ++ [34] ++ t ++ [34] = z.2 ++ wsA (u.ws.take (x + 1)) true := by rw [st, ewd]; simp
        refine ⟨?_, ?_, ?_, x + 1, [], by omega, ⟨hz, by omega, hsz⟩, ?_⟩
        · simp only [List.length_append]; omega
        · simp only [List.length_append, List.length_cons, List.length_nil]; omega
        · simp only [List.length_append, List.length_cons, List.length_nil]; omega
        · rw [e1]
          refine of_eq (B := letI z0 := (D.v (Value.string (bs ((Prod.snd z) ++ (wsA (List.take (x + (1 : Nat)) (Itm.ws u)) Bool.true))))); letI z1 := (D.v (Value.int IntKind.i64 (((x + (1 : Nat)) : Nat) : Int))); letI z2 := (D.v (Value.int IntKind.i64 (((Prod.fst z) : Nat) : Int))); letI z3 := (D.v (Value.int IntKind.i64 ((d : Nat) : Int))); letI z4 := (D.ro (List.length l) (itemsD l)); letI z5 := (D.v (Value.string (bs (blk d)))); letI z6 := ([] : List (Option Blk)); ((Bool.true = Bool.true) ∧ ((z6 = z6) ∧ ((True ∧ (z4 = z4)) ∧ ((True ∧ (z3 = z3)) ∧ ((True ∧ (z5 = z5)) ∧ ((True ∧ (z0 = z0)) ∧ ((True ∧ (z2 = z2)) ∧ ((True ∧ (z1 = z1)) ∧ True))))))))) (by kernel_rfl) ?_; simp
      · rw [h3, cond_false] at ewd
        have lw := congrArg List.length ewd
        have e1 : z.2 ++ wsA (u.ws.take x) true ++ t = z.2 ++ wsA (u.ws.take (x + 1)) true := by rw [st, ewd]; simp
        refine ⟨?_, x + 1, [], by omega, ⟨hz, by omega, hsz⟩, ?_⟩
        · simp only [List.length_append]; omega
        · rw [e1]
          refine of_eq (B := letI z0 := (D.v (Value.string (bs ((Prod.snd z) ++ (wsA (List.take (x + (1 : Nat)) (Itm.ws u)) Bool.true))))); letI z1 := (D.v (Value.int IntKind.i64 (((x + (1 : Nat)) : Nat) : Int))); letI z2 := (D.v (Value.int IntKind.i64 (((Prod.fst z) : Nat) : Int))); letI z3 := (D.v (Value.int IntKind.i64 ((d : Nat) : Int))); letI z4 := (D.ro (List.length l) (itemsD l)); letI z5 := (D.v (Value.string (bs (blk d)))); letI z6 := ([] : List (Option Blk)); ((Bool.true = Bool.true) ∧ ((z6 = z6) ∧ ((True ∧ (z4 = z4)) ∧ ((True ∧ (z3 = z3)) ∧ ((True ∧ (z5 = z5)) ∧ ((True ∧ (z0 = z0)) ∧ ((True ∧ (z2 = z2)) ∧ ((True ∧ (z1 = z1)) ∧ True))))))))) (by kernel_rfl) ?_; simp
  · simp only [decide_eq_false_iff_not] at h1
    have e : u.ws.take x = u.ws := List.take_of_length_le (by omega)
    rw [e]
    refine ⟨(), [], ?_⟩
    refine of_eq (B := letI z0 := (D.v (Value.string (bs ((Prod.snd z) ++ (wsA (Itm.ws u) Bool.true))))); letI z1 := (D.v (Value.int IntKind.i64 (((Prod.fst z) : Nat) : Int))); letI z2 := (D.v (Value.int IntKind.i64 ((d : Nat) : Int))); letI z3 := (D.ro (List.length l) (itemsD l)); letI z4 := (D.v (Value.string (bs (blk d)))); letI z5 := ([] : List (Option Blk)); ((Bool.true = Bool.true) ∧ ((z5 = z5) ∧ ((True ∧ (z3 = z3)) ∧ ((True ∧ (z2 = z2)) ∧ ((True ∧ (z4 = z4)) ∧ ((True ∧ (z0 = z0)) ∧ ((True ∧ (z1 = z1)) ∧ True)))))))) (by kernel_rfl) ?_; simp
def lp_rfmtOut (l : List Itm) (d h : Nat) : LoopO := loopRule (α := Nat) (β := Unit) [] (fun i => i ≤ l.length) (fun i => [(0, .ro l.length (itemsD l)), (1, .v (.int .i64 (d : Int))), (5, .v (.string (bs (blk d)))), (7, .v (.string (bs (fmtL (l.take i) (blk d))))), (8, .v (.int .i64 (i : Int)))]) (fun i => []) (0) (fun _ => True) (fun _ => (.exit 2, [(7, .v (.string (bs (fmtL l (blk d)))))], []))
theorem rfmtOut_rule (l : List Itm) (d h : Nat) (hpre : RfmtIH h ∧ hL l ≤ h ∧ (okL l ∧ l.length ≤ maxLen) ∧ d + hL l ≤ 100 ∧ (fmtL l (blk d)).length ≤ 140737488355328) : LRuleP Try.prog Try.f22.ntmps (loopAt ((Try.f22.body).getD .skip) 8) (lp_rfmtOut l d h) := by
  refine lrule_of (α := Nat) (β := Unit) (call := (addPure 22 (ent_rfmtR h) noCalls)) (lp := fun k => bif Nat.beq k 12 then some (exLoop (fun p : Nat × List UInt8 => lp_rfmtIn l d p)) else none) (N := 10) T_ok mixed (addPure_ok (ent_rfmtR_ok h hpre.1) noCalls_ok) (fun i => l.length - i) (by kernel_rfl) (of_eq (B := LRuleP Try.prog Try.f22.ntmps (loopAt (loopAt ((Try.f22.body).getD .skip) 8) 12) (exLoop (fun p : Nat × List UInt8 => lp_rfmtIn l d p)) ∧ True) (by kernel_rfl) ⟨exLoop_rule (fun p : Nat × List UInt8 => rfmtIn_rule l d p (hpre.2.2.1)), trivial⟩) ?_
  intro x hJ
  refine of_eq (B := letI z0 := (IntKind.wrap IntKind.i64 (((d : Nat) : Int) + (1 : Int))); letI z1 := (D.v (Value.int IntKind.i64 ((d : Nat) : Int))); letI z2 := (ByteArray.mk (Array.mk [(32 : UInt8), (123 : UInt8), (10 : UInt8)])); letI z3 := List.length l; letI z4 := ([] : List (Option Blk)); letI z5 := (D.v (Value.string (bs (blk d)))); letI z6 := (9223372036854775807 : Int); letI z15 := (D.ro z3 (itemsD l)); letI z7 := (Prod.mk (0 : Nat) z15); letI z14 := (Exit.exit (2 : Nat)); letI z8 := (Prod.mk z14 (Prod.mk [(Prod.mk (7 : Nat) (D.v (Value.string (bs (fmtL l (blk d))))))] z4)); letI z9 := (blk (Int.toNat z0)); letI z10 := (bs (fmtL (List.take x l) (blk d))); letI z11 := (Prod.mk (1 : Nat) z1); letI z12 := (Prod.mk (5 : Nat) z5); letI z13 := (D.v (Value.int IntKind.i64 (0 : Int))); letI z16 := (List (Option Nat)); letI z17 := ((z3 : Nat) : Int); letI z18 := (ByteArray.size (bs (blk d))); letI z19 := (List.length (itemsD l)); letI z20 := (140737488355328 : Nat); (True ∧ (True ∧ (True ∧ (True ∧ (pcond (Decidable.decide (((x : Nat) : Int) < z17)) (True ∧ (True ∧ ((((((ByteArray.size z10) + z18) : Nat) : Int) ≤ z6) ∧ (True ∧ (True ∧ (∃ (a : (Prod Nat (List UInt8))), ((((Prod.fst a) < z3) ∧ (((0 : Nat) ≤ (List.length (Itm.ws (List.getD l (Prod.fst a) (Inhabited.default))))) ∧ (((List.length (Prod.snd a)) + (List.length (wsA (Itm.ws (List.getD l (Prod.fst a) (Inhabited.default))) Bool.true))) ≤ z20))) ∧ (((Bool.true = Bool.true) ∧ ((z4 = z4) ∧ ((True ∧ (z15 = z15)) ∧ ((True ∧ (z1 = z1)) ∧ ((True ∧ (z5 = z5)) ∧ ((True ∧ ((D.v (Value.string (z10 ++ (bs (blk d))))) = (D.v (Value.string (bs ((Prod.snd a) ++ (wsA ([] : List Wd) Bool.true))))))) ∧ ((True ∧ ((D.v (Value.int IntKind.i64 ((x : Nat) : Int))) = (D.v (Value.int IntKind.i64 (((Prod.fst a) : Nat) : Int))))) ∧ ((True ∧ (z13 = z13)) ∧ True)))))))) ∧ (Unit → (True → (True ∧ (True ∧ ((((0 : Int) ≤ (((Prod.fst a) : Nat) : Int)) ∧ ((((Prod.fst a) : Nat) : Int) < z17)) ∧ (True ∧ ((((((Int.toNat (((Prod.fst a) : Nat) : Int)) * (4 : Nat)) + (2 : Nat)) < z19) ∧ (IsBool (List.getD (itemsD l) (((Int.toNat (((Prod.fst a) : Nat) : Int)) * (4 : Nat)) + (2 : Nat)) (Inhabited.default)))) ∧ (True ∧ (pcond (!(cellBool (List.getD (itemsD l) (((Int.toNat (((Prod.fst a) : Nat) : Int)) * (4 : Nat)) + (2 : Nat)) (Inhabited.default)))) (True ∧ ((((((ByteArray.size (bs ((Prod.snd a) ++ (wsA (Itm.ws (List.getD l (Prod.fst a) (Inhabited.default))) Bool.true)))) + (2 : Nat)) : Nat) : Int) ≤ z6) ∧ (True ∧ (True ∧ (True ∧ (True ∧ (∃ (y : Nat), (∃ (kp : z16), (((z3 - y) < (z3 - x)) ∧ ((y ≤ z3) ∧ (viewAll kp [z7, z11, z12, (Prod.mk (7 : Nat) (D.v (Value.string ((bs ((Prod.snd a) ++ (wsA (Itm.ws (List.getD l (Prod.fst a) (Inhabited.default))) Bool.true))) ++ (ByteArray.mk (Array.mk [(59 : UInt8), (10 : UInt8)])))))), (Prod.mk (8 : Nat) (D.v (Value.int IntKind.i64 (IntKind.wrap IntKind.i64 ((((Prod.fst a) : Nat) : Int) + (1 : Int))))))] z4 [z7, z11, z12, (Prod.mk (7 : Nat) (D.v (Value.string (bs (fmtL (List.take y l) (blk d)))))), (Prod.mk (8 : Nat) (D.v (Value.int IntKind.i64 ((y : Nat) : Int))))] z4))))))))))) (True ∧ ((((((ByteArray.size (bs ((Prod.snd a) ++ (wsA (Itm.ws (List.getD l (Prod.fst a) (Inhabited.default))) Bool.true)))) + (3 : Nat)) : Nat) : Int) ≤ z6) ∧ (True ∧ (True ∧ ((((0 : Int) ≤ (((Prod.fst a) : Nat) : Int)) ∧ ((((Prod.fst a) : Nat) : Int) < z17)) ∧ (True ∧ ((((((Int.toNat (((Prod.fst a) : Nat) : Int)) * (4 : Nat)) + (3 : Nat)) < z19) ∧ (IsSl (List.getD (itemsD l) (((Int.toNat (((Prod.fst a) : Nat) : Int)) * (4 : Nat)) + (3 : Nat)) (Inhabited.default)))) ∧ (True ∧ (True ∧ ((((IOk (cellN (List.getD (itemsD l) (((Int.toNat (((Prod.fst a) : Nat) : Int)) * (4 : Nat)) + (3 : Nat)) (Inhabited.default))) (cellL (List.getD (itemsD l) (((Int.toNat (((Prod.fst a) : Nat) : Int)) * (4 : Nat)) + (3 : Nat)) (Inhabited.default)))) ∧ ((hL (unI (cellL (List.getD (itemsD l) (((Int.toNat (((Prod.fst a) : Nat) : Int)) * (4 : Nat)) + (3 : Nat)) (Inhabited.default))))) < h)) ∧ ((((0 : Int) ≤ z0) ∧ ((z0 + (((hL (unI (cellL (List.getD (itemsD l) (((Int.toNat (((Prod.fst a) : Nat) : Int)) * (4 : Nat)) + (3 : Nat)) (Inhabited.default))))) : Nat) : Int)) ≤ (100 : Int))) ∧ ((List.length (fmtL (unI (cellL (List.getD (itemsD l) (((Int.toNat (((Prod.fst a) : Nat) : Int)) * (4 : Nat)) + (3 : Nat)) (Inhabited.default)))) z9)) ≤ z20))) ∧ ((((((ByteArray.size ((bs ((Prod.snd a) ++ (wsA (Itm.ws (List.getD l (Prod.fst a) (Inhabited.default))) Bool.true))) ++ z2)) + (ByteArray.size (bs (fmtL (unI (cellL (List.getD (itemsD l) (((Int.toNat (((Prod.fst a) : Nat) : Int)) * (4 : Nat)) + (3 : Nat)) (Inhabited.default)))) z9)))) : Nat) : Int) ≤ z6) ∧ (True ∧ ((((((ByteArray.size (((bs ((Prod.snd a) ++ (wsA (Itm.ws (List.getD l (Prod.fst a) (Inhabited.default))) Bool.true))) ++ z2) ++ (bs (fmtL (unI (cellL (List.getD (itemsD l) (((Int.toNat (((Prod.fst a) : Nat) : Int)) * (4 : Nat)) + (3 : Nat)) (Inhabited.default)))) z9)))) + z18) : Nat) : Int) ≤ z6) ∧ ((((((ByteArray.size ((((bs ((Prod.snd a) ++ (wsA (Itm.ws (List.getD l (Prod.fst a) (Inhabited.default))) Bool.true))) ++ z2) ++ (bs (fmtL (unI (cellL (List.getD (itemsD l) (((Int.toNat (((Prod.fst a) : Nat) : Int)) * (4 : Nat)) + (3 : Nat)) (Inhabited.default)))) z9))) ++ (bs (blk d)))) + (2 : Nat)) : Nat) : Int) ≤ z6) ∧ (True ∧ (True ∧ (True ∧ (True ∧ (∃ (y : Nat), (∃ (kp : z16), (((z3 - y) < (z3 - x)) ∧ ((y ≤ z3) ∧ (viewAll kp [z7, z11, z12, (Prod.mk (7 : Nat) (D.v (Value.string (((((bs ((Prod.snd a) ++ (wsA (Itm.ws (List.getD l (Prod.fst a) (Inhabited.default))) Bool.true))) ++ z2) ++ (bs (fmtL (unI (cellL (List.getD (itemsD l) (((Int.toNat (((Prod.fst a) : Nat) : Int)) * (4 : Nat)) + (3 : Nat)) (Inhabited.default)))) z9))) ++ (bs (blk d))) ++ (ByteArray.mk (Array.mk [(125 : UInt8), (10 : UInt8)])))))), (Prod.mk (8 : Nat) (D.v (Value.int IntKind.i64 (IntKind.wrap IntKind.i64 ((((Prod.fst a) : Nat) : Int) + (1 : Int))))))] z4 [z7, z11, z12, (Prod.mk (7 : Nat) (D.v (Value.string (bs (fmtL (List.take y l) (blk d)))))), (Prod.mk (8 : Nat) (D.v (Value.int IntKind.i64 ((y : Nat) : Int))))] z4)))))))))))))))))))))))))))))))))))))))) (∃ (r : Unit), (∃ (kp : z16), (True ∧ ((z14 = z14) ∧ (viewAll kp [(Prod.mk (7 : Nat) (D.v (Value.string z10)))] z4 (Prod.fst (Prod.snd ((fun (x_1 : Unit) => z8) r))) (Prod.snd (Prod.snd ((fun (x_1 : Unit) => z8) r)))))))))))))) (by kernel_rfl) ?_
  simp only [true_and, and_true, and_self, IsInt_lit, IsBool_lit, IsStr_lit, IsSl_lit, cellN_lit, cellL_lit, Bool.not_eq_true', Bool.not_eq_false', Bool.not_true, Bool.not_false, Int.reduceLE, Int.reduceLT, Int.reduceNeg, Nat.le_refl, Int.le_refl, Nat.reduceLT, Nat.reduceLeDiff, Nat.reduceEqDiff, D.v.injEq, D.tup.injEq, D.agg.injEq, D.ro.injEq, List.cons.injEq, Value.int.injEq, Value.bool.injEq, pcond_true, pcond_false, NamelessL, Nameless, Nat.reduceMul, Nat.reduceAdd, Nat.zero_add, Int.toNat_natCast] at *
  obtain ⟨ih, hh, ⟨ho, hlm⟩, hd, hsz⟩ := hpre
  simp only [maxLen] at hlm
  refine pcond_intro (fun h1 => ?_) (fun h1 => ?_)
  · simp only [decide_eq_true_eq] at h1
    have hxl : x < l.length := by omega
    obtain ⟨g0, g1, g2, g3⟩ := itemsD_get l x hxl
    have hlen := itemsD_length l
    have ox := okL_get l x ho hxl
    obtain ⟨o1, o2, o3, o4⟩ := okI_parts ox
    have hlt := hL_get l x hxl
    have hi : IntKind.i64.wrap ((x : Int) + 1) = ((x + 1 : Nat) : Int) := by rw [wrap_i64_of (by omega) (by omega)]; omega
    have hdd : IntKind.i64.wrap ((d : Int) + 1) = ((d + 1 : Nat) : Int) := by rw [wrap_i64_of (by omega) (by omega)]; omega
    have st := fmt_step hxl (blk d)
    have le := fmt_le l (x + 1) (blk d)
    have fe := fmtI_eq (l.getD x default) (blk d)
    rw [← blk_succ] at fe
    have lst := congrArg List.length st
    have lfe := congrArg List.length fe
    simp only [List.length_append] at lst lfe
    simp only [g0, g1, g2, g3, cellInt_lit, cellN_lit, cellL_lit, cellBool_lit, IsInt_lit, IsSl_lit, IsBool_lit, WOk_lit, IOk_lit, unW_wordsD, unI_itemsD, mk_eta, hi, hdd, Int.toNat_natCast, lit, bs_app, bs_size]
    refine ⟨?_, ⟨x, fmtL (l.take x) (blk d) ++ blk d⟩, ⟨hxl, Nat.zero_le _, ?_⟩, ?_, fun _ _ => ?_⟩
    · first | omega | (simp only [List.length_append]; omega)
    · simp only [List.length_append]; omega
    · exact ⟨by simp [wsA], rfl⟩
    · simp only [g0, g1, g2, g3, cellInt_lit, cellN_lit, cellL_lit, cellBool_lit, IsInt_lit, IsSl_lit, IsBool_lit, WOk_lit, IOk_lit, unW_wordsD, unI_itemsD, hi]
      obtain ⟨p, hp⟩ : ∃ p, p = fmtL (l.take x) (blk d) ++ blk d := ⟨_, rfl⟩
      rw [← hp]
      have hpl := congrArg List.length hp
      simp only [List.length_append] at hpl
      generalize l.getD x default = u at *
      refine ⟨by omega, ⟨by omega, trivial⟩, pcond_intro (fun h2 => ?_) (fun h2 => ?_)⟩
      · have h2 : u.bl = false := by simpa using h2
        rw [h2] at fe lfe
        simp only [cond_false, List.length_cons, List.length_nil] at fe lfe
        have e1 : p ++ wsA u.ws true ++ [59, 10] = fmtL (l.take (x + 1)) (blk d) := by rw [st, hp, fe]; simp
        refine ⟨?_, x + 1, [], by omega, by omega, ?_⟩
        · simp only [List.length_append]; omega
        · rw [e1]
          refine of_eq (B := letI z0 := (D.v (Value.string (bs (fmtL (List.take (x + (1 : Nat)) l) (blk d))))); letI z1 := (D.v (Value.int IntKind.i64 (((x + (1 : Nat)) : Nat) : Int))); letI z2 := (D.v (Value.int IntKind.i64 ((d : Nat) : Int))); letI z3 := (D.ro (List.length l) (itemsD l)); letI z4 := (D.v (Value.string (bs (blk d)))); letI z5 := ([] : List (Option Blk)); ((Bool.true = Bool.true) ∧ ((z5 = z5) ∧ ((True ∧ (z3 = z3)) ∧ ((True ∧ (z2 = z2)) ∧ ((True ∧ (z4 = z4)) ∧ ((True ∧ (z0 = z0)) ∧ ((True ∧ (z1 = z1)) ∧ True)))))))) (by kernel_rfl) ?_; simp
      · have h2 : u.bl = true := by simpa using h2
        rw [h2] at fe lfe
        simp only [cond_true, List.length_append, List.length_cons, List.length_nil] at fe lfe
        have e1 : p ++ wsA u.ws true ++ [32, 123, 10] ++ fmtL u.ks (blk (d + 1)) ++ blk d ++ [125, 10] = fmtL (l.take (x + 1)) (blk d) := by rw [st, hp, fe]; simp
        refine ⟨?_, by omega, ⟨by omega, trivial⟩, ⟨⟨⟨o2, o4⟩, by omega⟩, ⟨by omega, by omega⟩, by omega⟩, ?_, ?_, ?_, x + 1, [], by omega, by omega, ?_⟩
        · simp only [List.length_append]; omega
        · simp only [List.length_append, List.length_cons, List.length_nil]; omega
        · simp only [List.length_append, List.length_cons, List.length_nil]; omega
        · simp only [List.length_append, List.length_cons, List.length_nil]; omega
        · rw [e1]
          refine of_eq (B := letI z0 := (D.v (Value.string (bs (fmtL (List.take (x + (1 : Nat)) l) (blk d))))); letI z1 := (D.v (Value.int IntKind.i64 (((x + (1 : Nat)) : Nat) : Int))); letI z2 := (D.v (Value.int IntKind.i64 ((d : Nat) : Int))); letI z3 := (D.ro (List.length l) (itemsD l)); letI z4 := (D.v (Value.string (bs (blk d)))); letI z5 := ([] : List (Option Blk)); ((Bool.true = Bool.true) ∧ ((z5 = z5) ∧ ((True ∧ (z3 = z3)) ∧ ((True ∧ (z2 = z2)) ∧ ((True ∧ (z4 = z4)) ∧ ((True ∧ (z0 = z0)) ∧ ((True ∧ (z1 = z1)) ∧ True)))))))) (by kernel_rfl) ?_; simp
  · simp only [decide_eq_false_iff_not] at h1
    have e : l.take x = l := List.take_of_length_le (by omega)
    rw [e]
    refine ⟨(), [], ?_⟩
    refine of_eq (B := letI z0 := (D.v (Value.string (bs (fmtL l (blk d))))); letI z1 := ([] : List (Option Blk)); ((Bool.true = Bool.true) ∧ ((z1 = z1) ∧ ((True ∧ (z0 = z0)) ∧ True)))) (by kernel_rfl) ?_; simp
theorem rfmt_pure (l : List Itm) (d h : Nat) (hpre : RfmtIH h ∧ hL l ≤ h ∧ (okL l ∧ l.length ≤ maxLen) ∧ d + hL l ≤ 100 ∧ (fmtL l (blk d)).length ≤ 140737488355328) : PureJ Try.prog 22 [.ro l.length (itemsD l), .v (.int .i64 (d : Int))] (.v (.string (bs (fmtL l (blk d))))) := by
  refine pureJ_of_vcp (call := noCalls) (lp := fun k => bif Nat.beq k 3 then some (lp_rfmtBlank l d) else bif Nat.beq k 8 then some (lp_rfmtOut l d h) else none) (N := 10) T_ok mixed noCalls_ok Try.func22 rfl (by decide) (by kernel_rfl) (by kernel_rfl) (of_eq (B := letI z0 := ((Try.f22.body).getD .skip); LRuleP Try.prog Try.f22.ntmps (loopAt z0 3) (lp_rfmtBlank l d) ∧ LRuleP Try.prog Try.f22.ntmps (loopAt z0 8) (lp_rfmtOut l d h) ∧ True ∧ True) (by kernel_rfl) ⟨rfmtBlank_rule l d (hpre.2.2.2.1), ⟨rfmtOut_rule l d h hpre, ⟨trivial, trivial⟩⟩⟩) (by first | exact ⟨itemsD_nl l, trivial, trivial⟩ | trivial | simp [NamelessL, Nameless]) (by first | exact ⟨itemsD_nl l, trivial, trivial⟩ | trivial | simp [NamelessL, Nameless]) ?_
  refine of_eq (B := letI z0 := (D.v (Value.int IntKind.i64 ((d : Nat) : Int))); letI z1 := (D.v (Value.int IntKind.i64 (0 : Int))); letI z2 := (D.ro (List.length l) (itemsD l)); letI z3 := ([] : List (Option Blk)); letI z4 := (D.v (Value.string (ByteArray.mk (Array.mk ([] : List UInt8))))); letI z5 := (D.v (Value.string (bs (fmtL l (blk d))))); letI z6 := (D.v (Value.string (bs (blk d)))); letI z7 := ((True ∧ (z1 = z1)) ∧ True); letI z8 := Bool.true = Bool.true; letI z9 := (True ∧ (z2 = z2)); letI z10 := (True ∧ (z0 = z0)); (True ∧ (True ∧ (True ∧ (((0 : Nat) ≤ d) ∧ ((z8 ∧ ((z3 = z3) ∧ (z9 ∧ (z10 ∧ ((True ∧ (z4 = (D.v (Value.string (bs (blk (0 : Nat))))))) ∧ z7))))) ∧ (Unit → (True → (True ∧ (True ∧ (((0 : Nat) ≤ (List.length l)) ∧ ((z8 ∧ ((z3 = z3) ∧ (z9 ∧ (z10 ∧ ((True ∧ (z6 = z6)) ∧ ((True ∧ (z4 = (D.v (Value.string (bs (fmtL ([] : List Itm) (blk d))))))) ∧ z7)))))) ∧ (Unit → (True → (True ∧ (True ∧ (True ∧ (True ∧ (z5 = z5))))))))))))))))))) (by kernel_rfl) ?_
  simp only [true_and, and_true, and_self, IsInt_lit, IsBool_lit, IsStr_lit, IsSl_lit, cellN_lit, cellL_lit, Bool.not_eq_true', Bool.not_eq_false', Bool.not_true, Bool.not_false, Int.reduceLE, Int.reduceLT, Int.reduceNeg, Nat.le_refl, Int.le_refl, Nat.reduceLT, Nat.reduceLeDiff, Nat.reduceEqDiff, D.v.injEq, D.tup.injEq, D.agg.injEq, D.ro.injEq, List.cons.injEq, Value.int.injEq, Value.bool.injEq, pcond_true, pcond_false, NamelessL, Nameless, Nat.reduceMul, Nat.reduceAdd, Nat.zero_add, Int.toNat_natCast]
  exact ⟨Nat.zero_le _, rfl, fun _ _ => ⟨Nat.zero_le _, rfl, fun _ _ => trivial⟩⟩
theorem rfmt_all : ∀ h, RfmtIH h := by
  intro h
  induction h with
  | zero => intro l d hl; omega
  | succ h ih => intro l d h1 h2 h3 h4; exact rfmt_pure l d h ⟨ih, by omega, h2, h3, h4⟩
theorem wordE_size {s : ByteArray} {q : Bool} (h : wordE s q = 0) : s.size ≤ 120 := by
  unfold wordE at h
  by_cases h1 : 120 < s.size
  · rw [decide_eq_true h1] at h; simp at h
  · omega
theorem wsA_size : ∀ (ws : List Wd) (b : Bool), wordsE ws = 0 → (wsA ws b).length ≤ 123 * ws.length
  | [], b, _ => by simp [wsA]
  | w :: r, b, h => by
    rw [wordsE] at h
    by_cases h1 : wordE w.t w.q = 0
    · rw [decide_eq_true h1] at h
      have ih := wsA_size r false h
      have hs := wordE_size h1
      have hw : (wdT w).length ≤ 122 := by
        unfold wdT
        cases w.q <;> simp only [cond_true, cond_false, List.length_cons, List.length_append, List.length_nil] <;> rw [← size_list] <;> omega
      have hb : (bif b then [] else [32] : List UInt8).length ≤ 1 := by cases b <;> simp
      simp only [wsA, List.length_append, List.length_cons]
      omega
    · rw [decide_eq_false h1] at h; exact absurd h h1
theorem itemE_size {x : Itm} (h : itemE x = 0) : (wsA x.ws true).length ≤ 4920 := by
  unfold itemE at h
  by_cases h1 : (decide (x.ws.length = 0) || !headB (x.ws.getD 0 default).t (x.ws.getD 0 default).q) = true
  · rw [h1] at h; simp at h
  · rw [Bool.eq_false_iff.2 h1] at h
    by_cases h2 : 40 < x.ws.length
    · rw [decide_eq_true h2] at h; simp at h
    · rw [decide_eq_false h2] at h
      by_cases h3 : wordsE x.ws = 0
      · have := wsA_size x.ws true h3; omega
      · rw [decide_eq_false h3] at h; simp at h; exact absurd h h3
mutual
theorem chkI_size : ∀ (x : Itm) (d c : Nat) (ind : List UInt8), ind.length = 2 * d → (chkI x d c).1 = 0 → hI x + d ≤ 5 ∧ c ≤ (chkI x d c).2 ∧ (fmtI x ind).length + 6000 * c ≤ 6000 * (chkI x d c).2
  | .mk l ws b ks, d, c, ind, hi, h => by
    rw [chkI] at h ⊢
    by_cases h1 : 600 ≤ c
    · rw [decide_eq_true h1] at h; simp at h
    · rw [decide_eq_false h1] at h ⊢
      by_cases h2 : 4 < d
      · rw [decide_eq_true h2] at h; simp at h
      · rw [decide_eq_false h2] at h ⊢
        by_cases h3 : itemE (.mk l ws b ks) = 0
        · rw [decide_eq_true h3] at h ⊢
          simp only [cond_false, Bool.not_true] at h ⊢
          obtain ⟨k1, k2, k3⟩ := chkL_size ks (d + 1) (c + 1) (ind ++ [32, 32]) (by rw [List.length_append]; simp; omega) (by omega) h
          have hw := itemE_size h3
          simp only [Itm.ws] at hw
          refine ⟨by rw [hI]; omega, by omega, ?_⟩
          rw [fmtI]
          cases b
          · simp only [cond_false, List.length_append, List.length_cons, List.length_nil]; omega
          · simp only [cond_true, List.length_append, List.length_cons, List.length_nil]; omega
        · rw [decide_eq_false h3] at h; simp at h; exact absurd h h3
theorem chkL_size : ∀ (l : List Itm) (d c : Nat) (ind : List UInt8), ind.length = 2 * d → d ≤ 5 → (chkL l d c).1 = 0 → hL l + d ≤ 5 ∧ c ≤ (chkL l d c).2 ∧ (fmtL l ind).length + 6000 * c ≤ 6000 * (chkL l d c).2
  | [], d, c, ind, hi, hd, h => by simp [hL, chkL, fmtL]; omega
  | x :: r, d, c, ind, hi, hd, h => by
    rw [chkL] at h ⊢
    by_cases h1 : (chkI x d c).1 = 0
    · rw [decide_eq_true h1] at h ⊢
      simp only [cond_true] at h ⊢
      obtain ⟨a1, a2, a3⟩ := chkI_size x d c ind hi h1
      obtain ⟨b1, b2, b3⟩ := chkL_size r d (chkI x d c).2 ind hi hd h
      refine ⟨by rw [hL]; omega, by omega, ?_⟩
      rw [fmtL, List.length_append]; omega
    · rw [decide_eq_false h1] at h; exact absurd h h1
end
theorem fmt_size {l : List Itm} (h : chkE l = 0) : hL l ≤ 5 ∧ (fmtL l []).length ≤ 3600000 := by
  obtain ⟨h1, h2, h3⟩ := chkL_size l 0 0 [] rfl (by omega) h
  have := chkL_le l 0 0 (by omega) h
  exact ⟨by omega, by omega⟩
theorem rFormat_pure (l : List Itm) (hpre : okL l ∧ l.length ≤ maxLen) : PureJ Try.prog 11 [.ro l.length (itemsD l)] (.v (.string (bs (fmtB l)))) := by
  refine pureJ_of_vcx (call := (addPure 9 ent_rCheck (addPure 22 (ent_rfmtR (hL l + 1)) noCalls))) (lp := fun _ => none) (N := 10) T_ok mixed (addPure_ok ent_rCheck_ok (addPure_ok (ent_rfmtR_ok (hL l + 1) (rfmt_all (hL l + 1))) noCalls_ok)) Try.func11 rfl (by decide) (by kernel_rfl) (by kernel_rfl) (LpAll.none _) (by first | exact ⟨itemsD_nl l, trivial⟩ | trivial | simp [NamelessL, Nameless]) (by first | exact ⟨itemsD_nl l, trivial⟩ | trivial | simp [NamelessL, Nameless]) ?_
  refine of_eq (B := letI z0 := (unI (itemsD l)); letI z1 := (D.v (Value.string (bs (fmtB l)))); letI z2 := (IOk (List.length l) (itemsD l)); letI z3 := (fmtL z0 (blk (0 : Nat))); (True ∧ (True ∧ (z2 ∧ (True ∧ (pcond ((chkE z0) != (0 : Int)) (True ∧ (True ∧ (True ∧ ((D.v (Value.string (ByteArray.mk (Array.mk ([] : List UInt8))))) = z1)))) (True ∧ (((z2 ∧ ((hL z0) < ((hL l) + (1 : Nat)))) ∧ ((((0 : Int) ≤ (0 : Int)) ∧ (((0 : Int) + (((hL z0) : Nat) : Int)) ≤ (100 : Int))) ∧ ((List.length z3) ≤ (140737488355328 : Nat)))) ∧ (True ∧ (True ∧ (True ∧ ((D.v (Value.string (bs z3))) = z1)))))))))))) (by kernel_rfl) ?_
  simp only [true_and, and_true, and_self, IsInt_lit, IsBool_lit, IsStr_lit, IsSl_lit, cellN_lit, cellL_lit, Bool.not_eq_true', Bool.not_eq_false', Bool.not_true, Bool.not_false, Int.reduceLE, Int.reduceLT, Int.reduceNeg, Nat.le_refl, Int.le_refl, Nat.reduceLT, Nat.reduceLeDiff, Nat.reduceEqDiff, D.v.injEq, D.tup.injEq, D.agg.injEq, D.ro.injEq, List.cons.injEq, Value.int.injEq, Value.bool.injEq, pcond_true, pcond_false, NamelessL, Nameless, Nat.reduceMul, Nat.reduceAdd, Nat.zero_add, Int.toNat_natCast, IOk_lit, unI_itemsD]
  obtain ⟨ho, hlm⟩ := hpre
  unfold fmtB
  have hb : blk 0 = [] := rfl
  refine ⟨⟨hlm, ho⟩, pcond_intro (fun h1 => ?_) (fun h1 => ?_)⟩
  · rw [bne_iff_ne] at h1
    rw [decide_eq_false h1]; rfl
  · rw [bne_eq_false_iff_eq] at h1
    obtain ⟨k1, k2⟩ := fmt_size h1
    rw [decide_eq_true h1, hb]
    exact ⟨⟨⟨⟨hlm, ho⟩, Nat.lt_succ_self _⟩, by omega, by omega⟩, rfl⟩
def ent_rFormat : Ent := fun ds => match ds with
  | [.ro n ys] => some (.v (.string (bs (fmtB (unI ys)))), IOk n ys)
  | _ => none
theorem ent_rFormat_ok : EntOk Try.prog 11 ent_rFormat := by
  intro ds d c hd hc; unfold ent_rFormat at hd; split at hd
  · obtain ⟨rfl, rfl⟩ := pair_inj hd
    obtain ⟨⟨h1, h2⟩, h3, h4⟩ := hc
    rename_i n ys
    generalize unI ys = l at *
    subst h1; subst h2
    exact rFormat_pure l ⟨h4, h3⟩
  · cases hd
end Go.Proofs.Ytahiigfpikohgaa
end
section
namespace Go.Proofs.Ytahiigfpikohgaa
open Go.VD
set_option linter.unusedVariables false
set_option linter.unusedSimpArgs false
set_option maxRecDepth 100000
theorem ent_rsameR_ok (h : Nat) (ih : SameIH 15 h) : EntOk Try.prog 15 (ent_sameR h) := ent_sameR_ok0 _ h ih
def ent_rsameR := ent_sameR
def lp_rsameIn (a b : List Itm) (i : Nat) : LoopO := loopRule2 (α := Nat) (β := Unit) (γ := Unit) [] (fun k => ((i < a.length ∧ i < b.length) ∧ (a.getD i default).ws.length = (b.getD i default).ws.length ∧ k ≤ (a.getD i default).ws.length) ∧ ∀ j, j < k → wdEq ((a.getD i default).ws.getD j default) ((b.getD i default).ws.getD j default) = true) (fun k => [(0, .ro a.length (itemsD a)), (1, .ro b.length (itemsD b)), (5, .v (.int .i64 (i : Int))), (6, .v (.int .i64 (k : Int)))]) (fun _ => []) (0) (fun _ => eqBy wdEq (a.getD i default).ws (b.getD i default).ws = true) (fun _ => (.exit 2, [(0, .ro a.length (itemsD a)), (1, .ro b.length (itemsD b)), (5, .v (.int .i64 (i : Int)))], [])) (fun _ => eqBy wdEq (a.getD i default).ws (b.getD i default).ws = false) (fun _ => (.ret, [(4, .v (.bool false))], []))
theorem rsameIn_rule (a b : List Itm) (i : Nat) (hpre : (okL a ∧ a.length ≤ maxLen) ∧ okL b ∧ b.length ≤ maxLen) : LRuleP Try.prog Try.f15.ntmps (loopAt (loopAt ((Try.f15.body).getD .skip) 4) 9) (lp_rsameIn a b i) := by
  refine lrule_of2 (α := Nat) (β := Unit) (γ := Unit) (call := noCalls) (lp := fun _ => none) (N := 10) T_ok mixed noCalls_ok (fun k => (a.getD i default).ws.length - k) (by kernel_rfl) (LpAllP.none _) ?_
  intro x hJ
  refine of_eq (B := letI z14 := ((i : Nat) : Int); letI z0 := (((Int.toNat z14) * (4 : Nat)) + (1 : Nat)); letI z18 := (Exit.exit (2 : Nat)); letI z26 := List.length a; letI z9 := (Prod.mk (0 : Nat) (D.ro z26 (itemsD a))); letI z25 := List.length b; letI z10 := (Prod.mk (1 : Nat) (D.ro z25 (itemsD b))); letI z7 := (Prod.mk (5 : Nat) (D.v (Value.int IntKind.i64 z14))); letI z11 := ([] : List (Option Blk)); letI z1 := (Prod.mk z18 (Prod.mk [z9, z10, z7] z11)); letI z15 := ((x : Nat) : Int); letI z2 := ((Int.toNat z15) * (2 : Nat)); letI z3 := (List.getD (itemsD a) z0 (Inhabited.default)); letI z4 := (List.getD (itemsD b) z0 (Inhabited.default)); letI z5 := (Itm.ws (List.getD a i (Inhabited.default))); letI z21 := (Prod.mk (4 : Nat) (D.v (Value.bool Bool.false))); letI z6 := (Prod.mk Exit.ret (Prod.mk [z21] z11)); letI z8 := (Itm.ws (List.getD b i (Inhabited.default))); letI z12 := (List.getD (cellL z3) (z2 + (1 : Nat)) (Inhabited.default)); letI z13 := (List.getD (cellL z4) (z2 + (1 : Nat)) (Inhabited.default)); letI z16 := (List.getD (cellL z3) z2 (Inhabited.default)); letI z17 := (List.getD (cellL z4) z2 (Inhabited.default)); letI z19 := (List (Option Nat)); letI z31 := ((0 : Int) ≤ z14); letI z20 := (z31 ∧ (z14 < ((z26 : Nat) : Int))); letI z22 := ((z0 < (List.length (itemsD a))) ∧ (IsSl z3)); letI z23 := eqBy wdEq z5 z8; letI z24 := List.length z5; letI z27 := (((cellN z3) : Nat) : Int); letI z28 := ((0 : Nat) < (2 : Nat)); letI z29 := ((1 : Nat) < (2 : Nat)); letI z30 := ((0 : Int) ≤ z15); (True ∧ (True ∧ (True ∧ (z20 ∧ (True ∧ (z22 ∧ (True ∧ (True ∧ (pcond (Decidable.decide (z15 < z27)) (True ∧ (True ∧ (z20 ∧ (True ∧ (z22 ∧ (True ∧ ((z30 ∧ (z15 < z27)) ∧ ((((z2 + (2 : Nat)) ≤ (List.length (cellL z3))) ∧ ((IsStr z16) ∧ ((IsBool z12) ∧ True))) ∧ (True ∧ (True ∧ ((z31 ∧ (z14 < ((z25 : Nat) : Int))) ∧ (True ∧ (((z0 < (List.length (itemsD b))) ∧ (IsSl z4)) ∧ (True ∧ ((z30 ∧ (z15 < (((cellN z4) : Nat) : Int))) ∧ ((((z2 + (2 : Nat)) ≤ (List.length (cellL z4))) ∧ ((IsStr z17) ∧ ((IsBool z13) ∧ True))) ∧ ((((z28 ∧ (IsStr (D.v (Value.string (cellStr z16))))) ∧ (z28 ∧ (IsStr (D.v (Value.string (cellStr z17)))))) ∧ (True ∧ (((z29 ∧ (IsBool (D.v (Value.bool (cellBool z12))))) ∧ (z29 ∧ (IsBool (D.v (Value.bool (cellBool z13)))))) ∧ (True ∧ True)))) ∧ ((Bool.true = Bool.true) ∧ (pcond (!(((cellStr z16) == (cellStr z17)) && (((cellBool z12) == (cellBool z13)) && Bool.true))) (True ∧ ((∃ (r : Unit), (∃ (kp : z19), ((z23 = Bool.true) ∧ ((Exit.ret = z18) ∧ (viewAll kp [z9, z10, z7] z11 (Prod.fst (Prod.snd ((fun (x_1 : Unit) => z1) r))) (Prod.snd (Prod.snd ((fun (x_1 : Unit) => z1) r)))))))) ∨ (∃ (r : Unit), (∃ (kp : z19), ((z23 = Bool.false) ∧ ((Exit.ret = Exit.ret) ∧ (viewAll kp [z21] z11 (Prod.fst (Prod.snd ((fun (x_1 : Unit) => z6) r))) (Prod.snd (Prod.snd ((fun (x_1 : Unit) => z6) r)))))))))) (True ∧ (True ∧ (True ∧ (∃ (y : Nat), (∃ (kp : z19), (((z24 - y) < (z24 - x)) ∧ (((((i < z26) ∧ (i < z25)) ∧ ((z24 = (List.length z8)) ∧ (y ≤ z24))) ∧ (∀ (j : Nat), ((j < y) → ((wdEq (List.getD z5 j (Inhabited.default)) (List.getD z8 j (Inhabited.default))) = Bool.true)))) ∧ (viewAll kp [z9, z10, z7, (Prod.mk (6 : Nat) (D.v (Value.int IntKind.i64 (IntKind.wrap IntKind.i64 (z15 + (1 : Int))))))] z11 [z9, z10, z7, (Prod.mk (6 : Nat) (D.v (Value.int IntKind.i64 ((y : Nat) : Int))))] z11))))))))))))))))))))))))))) ((∃ (r : Unit), (∃ (kp : z19), ((z23 = Bool.true) ∧ ((z18 = z18) ∧ (viewAll kp [z9, z10, z7] z11 (Prod.fst (Prod.snd ((fun (x_1 : Unit) => z1) r))) (Prod.snd (Prod.snd ((fun (x_1 : Unit) => z1) r)))))))) ∨ (∃ (r : Unit), (∃ (kp : z19), ((z23 = Bool.false) ∧ ((z18 = Exit.ret) ∧ (viewAll kp ([] : List (Prod Nat D)) z11 (Prod.fst (Prod.snd ((fun (x_1 : Unit) => z6) r))) (Prod.snd (Prod.snd ((fun (x_1 : Unit) => z6) r))))))))))))))))))) (by kernel_rfl) ?_
  simp only [true_and, and_true, and_self, IsInt_lit, IsBool_lit, IsStr_lit, IsSl_lit, cellN_lit, cellL_lit, Bool.not_eq_true', Bool.not_eq_false', Bool.not_true, Bool.not_false, Int.reduceLE, Int.reduceLT, Int.reduceNeg, Nat.le_refl, Int.le_refl, Nat.reduceLT, Nat.reduceLeDiff, Nat.reduceEqDiff, D.v.injEq, D.tup.injEq, D.agg.injEq, D.ro.injEq, List.cons.injEq, Value.int.injEq, Value.bool.injEq, pcond_true, pcond_false, NamelessL, Nameless, Nat.reduceMul, Nat.reduceAdd, Nat.zero_add, Int.toNat_natCast] at *
  obtain ⟨⟨ha, hlm⟩, hb, hlb⟩ := hpre
  obtain ⟨⟨⟨hia, hib⟩, hab, hx⟩, hall⟩ := hJ
  obtain ⟨g0, g1, g2, g3⟩ := itemsD_get a i hia
  obtain ⟨e0, e1, e2, e3⟩ := itemsD_get b i hib
  have l1 := itemsD_length a
  have l2 := itemsD_length b
  obtain ⟨o1, o2, o3, o4⟩ := okI_parts (okL_get a i ha hia)
  obtain ⟨p1, p2, p3, p4⟩ := okI_parts (okL_get b i hb hib)
  simp only [maxLen] at hlm hlb o1 p1
  simp only [g0, g1, g2, g3, e0, e1, e2, e3, cellInt_lit, cellN_lit, cellL_lit, cellBool_lit, IsInt_lit, IsSl_lit, IsBool_lit]
  refine ⟨by omega, ⟨by omega, trivial⟩, ?_⟩
  refine pcond_intro (fun h1 => ?_) (fun h1 => ?_)
  · simp only [decide_eq_true_eq] at h1
    have hxl : x < (a.getD i default).ws.length := by omega
    obtain ⟨q0, q1⟩ := wordsD_get (a.getD i default).ws x hxl
    obtain ⟨r0, r1⟩ := wordsD_get (b.getD i default).ws x (by omega)
    have w1 := wordsD_length (a.getD i default).ws
    have w2 := wordsD_length (b.getD i default).ws
    have hi : IntKind.i64.wrap ((x : Int) + 1) = ((x + 1 : Nat) : Int) := by rw [wrap_i64_of (by omega) (by omega)]; omega
    simp only [q0, q1, r0, r1, cellStr_lit, cellBool_lit, IsStr_lit, IsBool_lit, hi]
    have ew : wdEq ((a.getD i default).ws.getD x default) ((b.getD i default).ws.getD x default) = (((a.getD i default).ws.getD x default).t == ((b.getD i default).ws.getD x default).t && (((a.getD i default).ws.getD x default).q == ((b.getD i default).ws.getD x default).q && true)) := by rw [Bool.and_true]; rfl
    rw [← ew]
    refine ⟨by omega, ⟨by omega, trivial⟩, by omega, ⟨by omega, trivial, trivial⟩, by omega, ⟨by omega, trivial⟩, by omega, ⟨by omega, trivial, trivial⟩, pcond_intro (fun h2 => .inr ⟨(), [], eqBy_no x hxl (by simpa using h2), ?_⟩) (fun h2 => ⟨x + 1, [], by omega, ⟨⟨⟨hia, hib⟩, hab, by omega⟩, fun j hj => ?_⟩, ?_⟩)⟩
    · refine of_eq (B := letI z0 := (D.v (Value.bool Bool.false)); letI z1 := ([] : List (Option Blk)); ((Bool.true = Bool.true) ∧ ((z1 = z1) ∧ ((True ∧ (z0 = z0)) ∧ True)))) (by kernel_rfl) ?_; simp
    · rcases Nat.lt_succ_iff_lt_or_eq.1 hj with h | rfl
      · exact hall j h
      · simpa using h2
    · refine of_eq (B := letI z0 := (D.v (Value.int IntKind.i64 (((x + (1 : Nat)) : Nat) : Int))); letI z1 := (D.v (Value.int IntKind.i64 ((i : Nat) : Int))); letI z2 := (D.ro (List.length a) (itemsD a)); letI z3 := (D.ro (List.length b) (itemsD b)); letI z4 := ([] : List (Option Blk)); ((Bool.true = Bool.true) ∧ ((z4 = z4) ∧ ((True ∧ (z2 = z2)) ∧ ((True ∧ (z3 = z3)) ∧ ((True ∧ (z1 = z1)) ∧ ((True ∧ (z0 = z0)) ∧ True))))))) (by kernel_rfl) ?_; simp
  · simp only [decide_eq_false_iff_not] at h1
    refine .inl ⟨(), [], eqBy_yes hab fun i hi => hall i (by omega), ?_⟩
    refine of_eq (B := letI z0 := (D.v (Value.int IntKind.i64 ((i : Nat) : Int))); letI z1 := (D.ro (List.length a) (itemsD a)); letI z2 := (D.ro (List.length b) (itemsD b)); letI z3 := ([] : List (Option Blk)); ((Bool.true = Bool.true) ∧ ((z3 = z3) ∧ ((True ∧ (z1 = z1)) ∧ ((True ∧ (z2 = z2)) ∧ ((True ∧ (z0 = z0)) ∧ True)))))) (by kernel_rfl) ?_; simp
def lp_rsameOut (a b : List Itm) (h : Nat) : LoopO := loopRule2 (α := Nat) (β := Unit) (γ := Unit) [] (fun i => (a.length = b.length ∧ i ≤ a.length) ∧ ∀ j, j < i → sameI (a.getD j default) (b.getD j default) = true) (fun i => [(0, .ro a.length (itemsD a)), (1, .ro b.length (itemsD b)), (5, .v (.int .i64 (i : Int)))]) (fun _ => []) (0) (fun _ => sameL a b = true) (fun _ => (.exit 0, [(1, .ro b.length (itemsD b))], [])) (fun _ => sameL a b = false) (fun _ => (.ret, [(4, .v (.bool false))], []))
theorem rsameOut_rule (a b : List Itm) (h : Nat) (hpre : SameIH 15 h ∧ hL a ≤ h ∧ (okL a ∧ a.length ≤ maxLen) ∧ okL b ∧ b.length ≤ maxLen) : LRuleP Try.prog Try.f15.ntmps (loopAt ((Try.f15.body).getD .skip) 4) (lp_rsameOut a b h) := by
  refine lrule_of2 (α := Nat) (β := Unit) (γ := Unit) (call := (addPure 15 (ent_rsameR h) noCalls)) (lp := fun k => bif Nat.beq k 9 then some (exLoop (fun p : Nat => lp_rsameIn a b p)) else none) (N := 10) T_ok mixed (addPure_ok (ent_rsameR_ok h hpre.1) noCalls_ok) (fun i => a.length - i) (by kernel_rfl) (of_eq (B := LRuleP Try.prog Try.f15.ntmps (loopAt (loopAt ((Try.f15.body).getD .skip) 4) 9) (exLoop (fun p : Nat => lp_rsameIn a b p)) ∧ True) (by kernel_rfl) ⟨exLoop_rule (fun p : Nat => rsameIn_rule a b p (hpre.2.2)), trivial⟩) ?_
  intro x hJ
  refine of_eq (B := letI z11 := (Exit.exit (0 : Nat)); letI z19 := List.length b; letI z30 := (D.ro z19 (itemsD b)); letI z4 := (Prod.mk (1 : Nat) z30); letI z3 := ([] : List (Option Blk)); letI z0 := (Prod.mk z11 (Prod.mk [z4] z3)); letI z7 := (Prod.mk (4 : Nat) (D.v (Value.bool Bool.false))); letI z1 := (Prod.mk Exit.ret (Prod.mk [z7] z3)); letI z6 := ((x : Nat) : Int); letI z2 := ((Int.toNat z6) * (4 : Nat)); letI z29 := (z2 + (3 : Nat)); letI z5 := (List.getD (itemsD a) z29 (Inhabited.default)); letI z8 := (List.getD (itemsD b) z29 (Inhabited.default)); letI z9 := (List (Option Nat)); letI z10 := List.length a; letI z12 := (((0 : Int) ≤ z6) ∧ (z6 < ((z19 : Nat) : Int))); letI z34 := ((z10 : Nat) : Int); letI z13 := (((0 : Int) ≤ z6) ∧ (z6 < z34)); letI z14 := ((sameL a b) = Bool.false); letI z15 := ((sameL a b) = Bool.true); letI z16 := (z2 + (2 : Nat)); letI z17 := (z2 + (1 : Nat)); letI z18 := Bool.true = Bool.true; letI z20 := Exit.ret = Exit.ret; letI z21 := (D.ro z10 (itemsD a)); letI z22 := (List.getD (itemsD a) z16 (Inhabited.default)); letI z23 := (List.getD (itemsD b) z16 (Inhabited.default)); letI z24 := (List.getD (itemsD a) z17 (Inhabited.default)); letI z25 := (List.getD (itemsD b) z17 (Inhabited.default)); letI z26 := (List.length (itemsD a)); letI z27 := (List.length (itemsD b)); letI z28 := Exit.ret = z11; letI z31 := (D.v (Value.int IntKind.i64 (0 : Int))); letI z32 := ([] : List (Prod Nat D)); letI z33 := (Prod.mk (0 : Nat) z21); (True ∧ (True ∧ (True ∧ (True ∧ (pcond (Decidable.decide (z6 < z34)) (True ∧ (True ∧ (z13 ∧ (True ∧ (((z16 < z26) ∧ (IsBool z22)) ∧ (True ∧ (True ∧ (z12 ∧ (True ∧ (((z16 < z27) ∧ (IsBool z23)) ∧ (True ∧ (True ∧ (pcond (!((cellBool z22) == (cellBool z23))) (True ∧ (True ∧ (True ∧ (z18 ∧ (True ∧ ((∃ (r : Unit), (∃ (kp : z9), (z15 ∧ (z28 ∧ (viewAll kp [z4] z3 (Prod.fst (Prod.snd ((fun (x_1 : Unit) => z0) r))) (Prod.snd (Prod.snd ((fun (x_1 : Unit) => z0) r)))))))) ∨ (∃ (r : Unit), (∃ (kp : z9), (z14 ∧ (z20 ∧ (viewAll kp [z7] z3 (Prod.fst (Prod.snd ((fun (x_1 : Unit) => z1) r))) (Prod.snd (Prod.snd ((fun (x_1 : Unit) => z1) r)))))))))))))) (True ∧ (True ∧ (z13 ∧ (True ∧ (((z17 < z26) ∧ (IsSl z24)) ∧ (True ∧ (True ∧ (True ∧ (z12 ∧ (True ∧ (((z17 < z27) ∧ (IsSl z25)) ∧ (True ∧ (True ∧ (True ∧ (True ∧ (pcond ((((cellN z24) : Nat) : Int) != (((cellN z25) : Nat) : Int)) (True ∧ (z18 ∧ (True ∧ ((∃ (r : Unit), (∃ (kp : z9), (z15 ∧ (z28 ∧ (viewAll kp [z4] z3 (Prod.fst (Prod.snd ((fun (x_1 : Unit) => z0) r))) (Prod.snd (Prod.snd ((fun (x_1 : Unit) => z0) r)))))))) ∨ (∃ (r : Unit), (∃ (kp : z9), (z14 ∧ (z20 ∧ (viewAll kp [z7] z3 (Prod.fst (Prod.snd ((fun (x_1 : Unit) => z1) r))) (Prod.snd (Prod.snd ((fun (x_1 : Unit) => z1) r)))))))))))) (True ∧ (True ∧ (z13 ∧ (True ∧ (((z29 < z26) ∧ (IsSl z5)) ∧ (True ∧ (True ∧ (z12 ∧ (True ∧ (((z29 < z27) ∧ (IsSl z8)) ∧ ((((IOk (cellN z5) (cellL z5)) ∧ (IOk (cellN z8) (cellL z8))) ∧ ((hL (unI (cellL z5))) < h)) ∧ (True ∧ (True ∧ (z18 ∧ (pcond (!(sameL (unI (cellL z5)) (unI (cellL z8)))) (True ∧ ((∃ (r : Unit), (∃ (kp : z9), (z15 ∧ (z28 ∧ (viewAll kp [z4] z3 (Prod.fst (Prod.snd ((fun (x_1 : Unit) => z0) r))) (Prod.snd (Prod.snd ((fun (x_1 : Unit) => z0) r)))))))) ∨ (∃ (r : Unit), (∃ (kp : z9), (z14 ∧ (z20 ∧ (viewAll kp [z7] z3 (Prod.fst (Prod.snd ((fun (x_1 : Unit) => z1) r))) (Prod.snd (Prod.snd ((fun (x_1 : Unit) => z1) r)))))))))) (True ∧ (∃ (a_1 : Nat), (((((a_1 < z10) ∧ (a_1 < z19)) ∧ (((List.length (Itm.ws (List.getD a a_1 (Inhabited.default)))) = (List.length (Itm.ws (List.getD b a_1 (Inhabited.default))))) ∧ ((0 : Nat) ≤ (List.length (Itm.ws (List.getD a a_1 (Inhabited.default))))))) ∧ (∀ (j : Nat), ((j < (0 : Nat)) → ((wdEq (List.getD (Itm.ws (List.getD a a_1 (Inhabited.default))) j (Inhabited.default)) (List.getD (Itm.ws (List.getD b a_1 (Inhabited.default))) j (Inhabited.default))) = Bool.true)))) ∧ ((z18 ∧ ((z3 = z3) ∧ ((True ∧ (z21 = z21)) ∧ ((True ∧ (z30 = z30)) ∧ ((True ∧ ((D.v (Value.int IntKind.i64 z6)) = (D.v (Value.int IntKind.i64 ((a_1 : Nat) : Int))))) ∧ ((True ∧ (z31 = z31)) ∧ True)))))) ∧ ((Unit → (((eqBy wdEq (Itm.ws (List.getD a a_1 (Inhabited.default))) (Itm.ws (List.getD b a_1 (Inhabited.default)))) = Bool.true) → (True ∧ (True ∧ (True ∧ (∃ (y : Nat), (∃ (kp : z9), (((z10 - y) < (z10 - x)) ∧ ((((z10 = z19) ∧ (y ≤ z10)) ∧ (∀ (j : Nat), ((j < y) → ((sameI (List.getD a j (Inhabited.default)) (List.getD b j (Inhabited.default))) = Bool.true)))) ∧ (viewAll kp [z33, z4, (Prod.mk (5 : Nat) (D.v (Value.int IntKind.i64 (IntKind.wrap IntKind.i64 (((a_1 : Nat) : Int) + (1 : Int))))))] z3 [z33, z4, (Prod.mk (5 : Nat) (D.v (Value.int IntKind.i64 ((y : Nat) : Int))))] z3)))))))))) ∧ (Unit → (((eqBy wdEq (Itm.ws (List.getD a a_1 (Inhabited.default))) (Itm.ws (List.getD b a_1 (Inhabited.default)))) = Bool.false) → ((∃ (r : Unit), (∃ (kp : z9), (z15 ∧ (z28 ∧ (viewAll kp z32 z3 (Prod.fst (Prod.snd ((fun (x_1 : Unit) => z0) r))) (Prod.snd (Prod.snd ((fun (x_1 : Unit) => z0) r)))))))) ∨ (∃ (r : Unit), (∃ (kp : z9), (z14 ∧ (z20 ∧ (viewAll kp [z7] z3 (Prod.fst (Prod.snd ((fun (x_1 : Unit) => z1) r))) (Prod.snd (Prod.snd ((fun (x_1 : Unit) => z1) r)))))))))))))))))))))))))))))))))))))))))))))))))))))))))))) ((∃ (r : Unit), (∃ (kp : z9), (z15 ∧ ((z11 = z11) ∧ (viewAll kp [z4] z3 (Prod.fst (Prod.snd ((fun (x_1 : Unit) => z0) r))) (Prod.snd (Prod.snd ((fun (x_1 : Unit) => z0) r)))))))) ∨ (∃ (r : Unit), (∃ (kp : z9), (z14 ∧ ((z11 = Exit.ret) ∧ (viewAll kp z32 z3 (Prod.fst (Prod.snd ((fun (x_1 : Unit) => z1) r))) (Prod.snd (Prod.snd ((fun (x_1 : Unit) => z1) r))))))))))))))) (by kernel_rfl) ?_
  simp only [true_and, and_true, and_self, IsInt_lit, IsBool_lit, IsStr_lit, IsSl_lit, cellN_lit, cellL_lit, Bool.not_eq_true', Bool.not_eq_false', Bool.not_true, Bool.not_false, Int.reduceLE, Int.reduceLT, Int.reduceNeg, Nat.le_refl, Int.le_refl, Nat.reduceLT, Nat.reduceLeDiff, Nat.reduceEqDiff, D.v.injEq, D.tup.injEq, D.agg.injEq, D.ro.injEq, List.cons.injEq, Value.int.injEq, Value.bool.injEq, pcond_true, pcond_false, NamelessL, Nameless, Nat.reduceMul, Nat.reduceAdd, Nat.zero_add, Int.toNat_natCast] at *
  obtain ⟨ih, hh, ⟨ha, hlm⟩, hb, hlb⟩ := hpre
  obtain ⟨⟨hab, hx⟩, hall⟩ := hJ
  simp only [maxLen] at hlm hlb
  refine pcond_intro (fun h1 => ?_) (fun h1 => ?_)
  · simp only [decide_eq_true_eq] at h1
    have hxl : x < a.length := by omega
    obtain ⟨g0, g1, g2, g3⟩ := itemsD_get a x hxl
    obtain ⟨e0, e1, e2, e3⟩ := itemsD_get b x (by omega)
    have l1 := itemsD_length a
    have l2 := itemsD_length b
    have hi : IntKind.i64.wrap ((x : Int) + 1) = ((x + 1 : Nat) : Int) := by rw [wrap_i64_of (by omega) (by omega)]; omega
    have ox := okL_get a x ha hxl
    have oy := okL_get b x hb (by omega)
    have hlt := hL_get a x hxl
    obtain ⟨o1, o2, o3, o4⟩ := okI_parts ox
    obtain ⟨p1, p2, p3, p4⟩ := okI_parts oy
    simp only [g0, g1, g2, g3, e0, e1, e2, e3, cellInt_lit, cellN_lit, cellL_lit, cellBool_lit, IsInt_lit, IsSl_lit, IsBool_lit, IOk_lit, unI_itemsD, hi]
    have no : sameI (a.getD x default) (b.getD x default) = false → sameL a b = false := fun e => by rw [sameL_eq]; exact eqBy_no x hxl e
    have vw : viewAll [] [(4, D.v (Value.bool false))] [] [(4, D.v (Value.bool false))] [] := by refine of_eq (B := letI z0 := (D.v (Value.bool Bool.false)); letI z1 := ([] : List (Option Blk)); ((Bool.true = Bool.true) ∧ ((z1 = z1) ∧ ((True ∧ (z0 = z0)) ∧ True)))) (by kernel_rfl) ?_; simp
    refine ⟨by omega, ⟨by omega, trivial⟩, by omega, ⟨by omega, trivial⟩, pcond_intro (fun h2 => .inr ⟨(), [], no ?_, vw⟩) (fun h2 => ⟨by omega, ⟨by omega, trivial⟩, by omega, ⟨by omega, trivial⟩, pcond_intro (fun h3 => .inr ⟨(), [], no ?_, vw⟩) (fun h3 =>
      ⟨by omega, ⟨by omega, trivial⟩, by omega, ⟨by omega, trivial⟩, ⟨⟨⟨o2, o4⟩, p2, p4⟩, by omega⟩, pcond_intro (fun h4 => .inr ⟨(), [], no ?_, vw⟩) (fun h4 => ⟨x, ⟨⟨⟨hxl, by omega⟩, ?_, Nat.zero_le _⟩, fun j hj => absurd hj (Nat.not_lt_zero _)⟩, rfl, fun _ h5 => ⟨x + 1, [], by omega, ⟨⟨hab, by omega⟩, fun j hj => ?_⟩, ?_⟩, fun _ h5 => .inr ⟨(), [], no ?_, vw⟩⟩)⟩)⟩)⟩
    · rw [sameI_eq, show ((a.getD x default).bl == (b.getD x default).bl) = false from by simpa using h2]; rfl
    · rw [sameI_eq, eqBy_len (a := (a.getD x default).ws) (by rw [bne_iff_ne] at h3; omega), Bool.false_and, Bool.and_false]
    · rw [sameI_eq, show sameL (a.getD x default).ks (b.getD x default).ks = false from by simpa using h4, Bool.and_false, Bool.and_false]
    · rw [bne_eq_false_iff_eq] at h3; omega
    · rcases Nat.lt_succ_iff_lt_or_eq.1 hj with h | rfl
      · exact hall j h
      · rw [sameI_eq, h5, show ((a.getD j default).bl == (b.getD j default).bl) = true from by simpa using h2, show sameL (a.getD j default).ks (b.getD j default).ks = true from by simpa using h4]; rfl
    · refine of_eq (B := letI z0 := (D.ro (List.length a) (itemsD a)); letI z1 := (D.ro (List.length b) (itemsD b)); letI z2 := ([] : List (Option Blk)); ((Bool.true = Bool.true) ∧ ((z2 = z2) ∧ ((True ∧ (z0 = z0)) ∧ ((True ∧ (z1 = z1)) ∧ ((True ∧ ((D.v (Value.int IntKind.i64 (IntKind.wrap IntKind.i64 (((x : Nat) : Int) + (1 : Int))))) = (D.v (Value.int IntKind.i64 (((x + (1 : Nat)) : Nat) : Int))))) ∧ True)))))) (by kernel_rfl) ?_; simp; omega
    · rw [sameI_eq, h5, Bool.false_and, Bool.and_false]
  · simp only [decide_eq_false_iff_not] at h1
    refine .inl ⟨(), [], ?_, ?_⟩
    · rw [sameL_eq]; exact eqBy_yes hab fun i hi => hall i (by omega)
    · refine of_eq (B := letI z0 := (D.ro (List.length b) (itemsD b)); letI z1 := ([] : List (Option Blk)); ((Bool.true = Bool.true) ∧ ((z1 = z1) ∧ ((True ∧ (z0 = z0)) ∧ True)))) (by kernel_rfl) ?_; simp
theorem rsame_pure (a b : List Itm) (h : Nat) (hpre : SameIH 15 h ∧ hL a ≤ h ∧ (okL a ∧ a.length ≤ maxLen) ∧ okL b ∧ b.length ≤ maxLen) : PureJ Try.prog 15 [.ro a.length (itemsD a), .ro b.length (itemsD b)] (.v (.bool (sameL a b))) := by
  refine pureJ_of_vcp (call := noCalls) (lp := fun k => bif Nat.beq k 4 then some (lp_rsameOut a b h) else none) (N := 10) T_ok mixed noCalls_ok Try.func15 rfl (by decide) (by kernel_rfl) (by kernel_rfl) (of_eq (B := LRuleP Try.prog Try.f15.ntmps (loopAt ((Try.f15.body).getD .skip) 4) (lp_rsameOut a b h) ∧ True ∧ True) (by kernel_rfl) ⟨rsameOut_rule a b h hpre, ⟨trivial, trivial⟩⟩) (by first | exact ⟨itemsD_nl a, itemsD_nl b, trivial⟩ | trivial | simp [NamelessL, Nameless]) (by first | exact ⟨itemsD_nl a, itemsD_nl b, trivial⟩ | trivial | simp [NamelessL, Nameless]) ?_
  refine of_eq (B := letI z4 := (D.v (Value.bool (sameL a b))); letI z0 := (True ∧ (True ∧ ((D.v (Value.bool Bool.false)) = z4))); letI z1 := List.length a; letI z2 := List.length b; letI z3 := (D.v (Value.int IntKind.i64 (0 : Int))); letI z5 := ([] : List (Option Blk)); letI z6 := (D.ro z1 (itemsD a)); letI z7 := (D.ro z2 (itemsD b)); (True ∧ (True ∧ (True ∧ (True ∧ (True ∧ (True ∧ (pcond (((z1 : Nat) : Int) != ((z2 : Nat) : Int)) (True ∧ z0) (True ∧ ((((z1 = z2) ∧ ((0 : Nat) ≤ z1)) ∧ (∀ (j : Nat), ((j < (0 : Nat)) → ((sameI (List.getD a j (Inhabited.default)) (List.getD b j (Inhabited.default))) = Bool.true)))) ∧ (((Bool.true = Bool.true) ∧ ((z5 = z5) ∧ ((True ∧ (z6 = z6)) ∧ ((True ∧ (z7 = z7)) ∧ ((True ∧ (z3 = z3)) ∧ True))))) ∧ ((Unit → (((sameL a b) = Bool.true) → (True ∧ (True ∧ (True ∧ ((D.v (Value.bool Bool.true)) = z4)))))) ∧ (Unit → (((sameL a b) = Bool.false) → z0)))))))))))))) (by kernel_rfl) ?_
  simp only [true_and, and_true, and_self, IsInt_lit, IsBool_lit, IsStr_lit, IsSl_lit, cellN_lit, cellL_lit, Bool.not_eq_true', Bool.not_eq_false', Bool.not_true, Bool.not_false, Int.reduceLE, Int.reduceLT, Int.reduceNeg, Nat.le_refl, Int.le_refl, Nat.reduceLT, Nat.reduceLeDiff, Nat.reduceEqDiff, D.v.injEq, D.tup.injEq, D.agg.injEq, D.ro.injEq, List.cons.injEq, Value.int.injEq, Value.bool.injEq, pcond_true, pcond_false, NamelessL, Nameless, Nat.reduceMul, Nat.reduceAdd, Nat.zero_add, Int.toNat_natCast]
  refine pcond_intro (fun h1 => ?_) (fun h1 => ?_)
  · rw [sameL_eq, eqBy_len (by simp at h1; omega)]
  · have hab : a.length = b.length := by simp at h1; omega
    refine ⟨⟨⟨hab, Nat.zero_le _⟩, fun j hj => absurd hj (Nat.not_lt_zero _)⟩, fun _ h => h.symm, fun _ h => h.symm⟩
theorem rsame_all : ∀ h, SameIH 15 h := by
  intro h
  induction h with
  | zero => intro a b hl; omega
  | succ h ih => intro a b h1 h2 h3; exact rsame_pure a b h ⟨ih, by omega, h2, h3⟩
def ent_rsame := ent_same
theorem ent_rsame_ok : EntOk Try.prog 15 ent_rsame := ent_same_of _ rsame_all
end Go.Proofs.Ytahiigfpikohgaa
end
section
namespace Go.Proofs.Ytahiigfpikohgaa
open Go.VD
set_option linter.unusedVariables false
set_option linter.unusedSimpArgs false
set_option maxRecDepth 100000
theorem lawChecks_pure (a b : List Itm) (hpre : (okL a ∧ a.length ≤ maxLen) ∧ okL b ∧ b.length ≤ maxLen) : PureJ Try.prog 3 [.ro a.length (itemsD a), .ro b.length (itemsD b)] (.v (.bool true)) := by
  refine pureJ_of_vcx (call := (addPure 6 ent_synKnown (addPure 7 (ent_deepR (hL a + hL b + 1)) (addPure 8 ent_hCheck (addPure 9 ent_rCheck (addPure 10 ent_hFormat (addPure 11 ent_rFormat (addPure 12 ent_cnt (addPure 13 ent_rcnt (addPure 14 ent_same (addPure 15 ent_rsame noCalls))))))))))) (lp := fun _ => none) (N := 10) T_ok mixed (addPure_ok ent_synKnown_ok (addPure_ok (ent_deepR_ok (hL a + hL b + 1) (deep_all (hL a + hL b + 1))) (addPure_ok ent_hCheck_ok (addPure_ok ent_rCheck_ok (addPure_ok ent_hFormat_ok (addPure_ok ent_rFormat_ok (addPure_ok ent_cnt_ok (addPure_ok ent_rcnt_ok (addPure_ok ent_same_ok (addPure_ok ent_rsame_ok noCalls_ok)))))))))) Try.func3 rfl (by decide) (by kernel_rfl) (by kernel_rfl) (LpAll.none _) (by first | exact ⟨itemsD_nl a, itemsD_nl b, trivial⟩ | trivial | simp [NamelessL, Nameless]) (by first | exact ⟨itemsD_nl a, itemsD_nl b, trivial⟩ | trivial | simp [NamelessL, Nameless]) ?_
  refine of_eq (B := letI z0 := (unI (itemsD a)); letI z4 := (D.v (Value.bool Bool.true)); letI z1 := (True ∧ (True ∧ (True ∧ (True ∧ ((D.v (Value.bool Bool.false)) = z4))))); letI z2 := (IOk (List.length a) (itemsD a)); letI z13 := List.length z0; letI z6 := (((itemsD a) = (itemsD z0)) ∧ ((List.length a) = z13)); letI z8 := (9223372036854775807 : Nat); letI z3 := (z6 ∧ ((okL z0) ∧ (z13 ≤ z8))); letI z5 := (unI (itemsD b)); letI z7 := (((-(1 : Int)) ≤ (12 : Int)) ∧ ((12 : Int) ≤ (100 : Int))); letI z14 := (True ∧ (True ∧ z1)); letI z9 := (True ∧ (True ∧ z14)); letI z10 := (True ∧ (True ∧ (True ∧ (z4 = z4)))); letI z11 := (z2 ∧ (IOk (List.length b) (itemsD b))); letI z12 := (((hL a) + (hL b)) + (1 : Nat)); (True ∧ (True ∧ (True ∧ (True ∧ ((z6 ∧ (((hL z0) < z12) ∧ ((okL z0) ∧ ((z13 ≤ z8) ∧ z7)))) ∧ (True ∧ (pcond (deepL z0 (12 : Int)) (True ∧ z10) (True ∧ (((((itemsD b) = (itemsD z5)) ∧ ((List.length b) = (List.length z5))) ∧ (((hL z5) < z12) ∧ ((okL z5) ∧ (((List.length z5) ≤ z8) ∧ z7)))) ∧ (True ∧ (pcond (deepL z5 (12 : Int)) z10 (True ∧ (z2 ∧ (True ∧ (z2 ∧ (True ∧ (True ∧ (pcond ((chkE z0) == (chkE z0)) (True ∧ ((z2 ∧ (((chkE z0) = (0 : Int)) → ((List.length (fmtL z0 ([] : List UInt8))) ≤ (140737488355328 : Nat)))) ∧ (True ∧ (z2 ∧ (True ∧ (True ∧ (True ∧ (pcond ((ByteArray.toList (ByteArray.mk (Array.mk (fmtB z0)))) == (ByteArray.toList (bs (fmtB z0)))) (True ∧ (z3 ∧ (True ∧ (z3 ∧ (True ∧ (True ∧ (True ∧ (pcond ((cntL z0) == (cntL z0)) (True ∧ (True ∧ (z11 ∧ (True ∧ (True ∧ (z11 ∧ (True ∧ (True ∧ (True ∧ (pcond ((sameL z0 z5) == (sameL z0 z5)) (True ∧ (True ∧ ((z2 ∧ z2) ∧ (True ∧ (True ∧ (True ∧ (True ∧ ((D.v (Value.bool (sameL z0 z0))) = z4)))))))) z1)))))))))) z14)))))))) z9)))))))) (True ∧ (True ∧ z9))))))))))))))))))))) (by kernel_rfl) ?_
  simp only [true_and, and_true, and_self, IsInt_lit, IsBool_lit, IsStr_lit, IsSl_lit, cellN_lit, cellL_lit, Bool.not_eq_true', Bool.not_eq_false', Bool.not_true, Bool.not_false, Int.reduceLE, Int.reduceLT, Int.reduceNeg, Nat.le_refl, Int.le_refl, Nat.reduceLT, Nat.reduceLeDiff, Nat.reduceEqDiff, D.v.injEq, D.tup.injEq, D.agg.injEq, D.ro.injEq, List.cons.injEq, Value.int.injEq, Value.bool.injEq, pcond_true, pcond_false, NamelessL, Nameless, Nat.reduceMul, Nat.reduceAdd, Nat.zero_add, Int.toNat_natCast, IOk_lit, unI_itemsD]
  obtain ⟨⟨ha, la⟩, hb, lb⟩ := hpre
  have la' : a.length ≤ 9223372036854775807 := la
  have lb' : b.length ≤ 9223372036854775807 := lb
  rw [beq_self_eq_true, pcond_true, beq_self_eq_true, pcond_true, beq_self_eq_true, pcond_true, show ({ data := { toList := fmtB a } } : ByteArray) = bs (fmtB a) from rfl, beq_self_eq_true, pcond_true]
  refine ⟨⟨by omega, ha, la'⟩, pcond_intro (fun _ => trivial) (fun _ => ⟨⟨by omega, hb, lb'⟩, pcond_intro (fun _ => trivial) (fun _ => ⟨⟨la, ha⟩, ⟨la, ha⟩, ⟨⟨la, ha⟩, fun h => ?_⟩, ⟨la, ha⟩, ⟨ha, la'⟩, ⟨ha, la'⟩, ⟨⟨la, ha⟩, lb, hb⟩, ⟨⟨la, ha⟩, lb, hb⟩, ⟨la, ha⟩, sameL_self a⟩)⟩)⟩
  have := (fmt_size h).2
  omega
end Go.Proofs.Ytahiigfpikohgaa
end
section
namespace Go.VD
set_option linter.unusedVariables false
set_option linter.unusedSimpArgs false
structure PtrJ (P : Program) (g : FuncId) (off : Nat) (plain : List D) (blk : Blk) (d : D) (blk' : Blk) : Prop where
  call : CallJ P g (.ptr 0 off :: plain) [some blk] d [some blk']
  plain : NamelessL plain
  res : Nameless d
  cs : NamelessL blk.cs
  cs' : NamelessL blk'.cs
abbrev EntP := Nat → List D → Blk → Option (D × Blk × Prop)
def EntPOk (P : Program) (g : FuncId) (e : EntP) : Prop := ∀ off plain blk d blk' p, e off plain blk = some (d, blk', p) → p → PtrJ P g off plain blk d blk'
def addPtr (f : FuncId) (e : EntP) (r : CallO) : CallO := fun g ds H K => bif Nat.beq g f then (match ds with
  | .ptr b off :: plain => match blkAt H b with
    | some blk => match e off plain blk with
      | some (d, blk', p) => some (p ∧ K d (H.set b (some blk')) (.wr b))
      | none => none
    | none => none
  | _ => none) else r g ds H K
theorem addPtr_ok {P : Program} {f : FuncId} {e : EntP} {r : CallO} (he : EntPOk P f e) (hr : CallOK P r) : CallOK P (addPtr f e r) := by
  intro g ds H K p h hp
  unfold addPtr at h
  cases hg : Nat.beq g f with
  | false => rw [hg] at h; exact hr g ds H K p h hp
  | true =>
    rw [hg] at h
    have hgf : g = f := Nat.eq_of_beq_eq_true hg
    subst hgf
    simp only [cond_true] at h
    split at h
    · rename_i b off plain
      split at h
      · rename_i blk hblk
        split at h
        · rename_i d blk' q hq
          injection h with h; subst h
          have hm := he _ _ _ _ _ _ hq hp.1
          exact .writes _ b _ (fun H1 e1 => hm.call.framePtr hm.plain hm.res hm.cs hm.cs' (by rw [e1]; exact blkAt_some hblk)) hp.2
        · cases h
      · cases h
    · cases h
end Go.VD
end
