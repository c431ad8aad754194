import Derived.Test.YtahiigfpikohgaaZUo14
section
namespace Go.Proofs.Ytahiigfpikohgaa
open Go.VD
set_option linter.unusedVariables false
set_option linter.unusedSimpArgs false
set_option maxRecDepth 100000
def wdT (w : Wd) : List UInt8 := bif w.q then 34 :: (w.t.data.toList ++ [34]) else w.t.data.toList
def wsA : List Wd → Bool → List UInt8
  | [], _ => []
  | w :: r, b => (bif b then [] else [32]) ++ (wdT w ++ wsA r false)
theorem wsA_app : ∀ (l : List Wd) (w : Wd) (b : Bool), wsA (l ++ [w]) b = wsA l b ++ ((bif b && decide (l.length = 0) then [] else [32]) ++ wdT w)
  | [], w, b => by simp [wsA]
  | v :: r, w, b => by
    simp only [List.cons_append, wsA, wsA_app r w false, List.append_assoc, Bool.false_and, cond_false]
    simp
theorem wsA_step {ws : List Wd} {j : Nat} (h : j < ws.length) : wsA (ws.take (j + 1)) true = wsA (ws.take j) true ++ ((bif decide (j = 0) then [] else [32]) ++ wdT (ws.getD j default)) := by
  rw [getD_take ws h, wsA_app, Bool.true_and, List.length_take, Nat.min_eq_left (by omega)]
theorem wsA_split : ∀ (a b : List Wd) (f : Bool), ∃ r, wsA (a ++ b) f = wsA a f ++ r
  | [], b, f => ⟨wsA b f, by simp [wsA]⟩
  | w :: a, b, f => by
    obtain ⟨r, h⟩ := wsA_split a b false
    exact ⟨r, by simp [wsA, h]⟩
theorem wsA_le (ws : List Wd) (j : Nat) : (wsA (ws.take j) true).length ≤ (wsA ws true).length := by
  obtain ⟨r, h⟩ := wsA_split (ws.take j) (ws.drop j) true
  rw [List.take_append_drop] at h
  rw [h, List.length_append]; omega
mutual
def fmtI : Itm → List UInt8 → List UInt8
  | .mk _ ws b ks, ind => ind ++ (wsA ws true ++ (bif b then [32, 123, 10] ++ (fmtL ks (ind ++ [32, 32]) ++ (ind ++ [125, 10])) else [59, 10]))
def fmtL : List Itm → List UInt8 → List UInt8
  | [], _ => []
  | x :: r, ind => fmtI x ind ++ fmtL r ind
end
theorem fmtI_eq (x : Itm) (ind : List UInt8) : fmtI x ind = ind ++ (wsA x.ws true ++ (bif x.bl then [32, 123, 10] ++ (fmtL x.ks (ind ++ [32, 32]) ++ (ind ++ [125, 10])) else [59, 10])) := by
  cases x; simp only [fmtI, Itm.ws, Itm.bl, Itm.ks]
theorem fmtL_app : ∀ (l r : List Itm) (ind : List UInt8), fmtL (l ++ r) ind = fmtL l ind ++ fmtL r ind
  | [], r, ind => by simp [fmtL]
  | x :: l, r, ind => by simp only [List.cons_append, fmtL, fmtL_app l r ind, List.append_assoc]
theorem fmt_step {l : List Itm} {i : Nat} (h : i < l.length) (ind : List UInt8) : fmtL (l.take (i + 1)) ind = fmtL (l.take i) ind ++ fmtI (l.getD i default) ind := by
  rw [getD_take l h, fmtL_app]; simp [fmtL]
theorem fmt_le (l : List Itm) (i : Nat) (ind : List UInt8) : (fmtL (l.take i) ind).length ≤ (fmtL l ind).length := by
  have := fmtL_app (l.take i) (l.drop i) ind
  rw [List.take_append_drop] at this
  rw [this, List.length_append]; omega
theorem app_list (a b : ByteArray) : (a ++ b).data.toList = a.data.toList ++ b.data.toList := by simp [ByteArray.data_append]
theorem wword_call (s : List UInt8) (t : ByteArray) (q : Bool) (a : D) (f : Bool) (hpre : AdrOk 0 a ∧ s.length + (wdT ⟨t, q⟩).length ≤ 140737488355328) : CallJ Try.prog 32 [.ptr 0 0, .agg [.v (.string t), .v (.bool q)]] ([some ⟨44, [a, .sl 1 0 s.length (.toEnd 1)], true⟩, some ⟨5, bytD s, f⟩]) (.tup []) ([some ⟨44, [.ptr 0 0, .sl 2 0 (s ++ wdT ⟨t, q⟩).length (.toEnd 1)], true⟩, none, some ⟨5, bytD (s ++ wdT ⟨t, q⟩), false⟩]) := by
  refine callJ_of_vck (k := 2) (call := (addCall 30 (entc_wstr) (addCall 31 (entc_wbyte) noCalls))) (lp := fun _ => none) (N := 10) T_ok mixed (addCall_ok (entc_wstr_ok) (addCall_ok (entc_wbyte_ok) noCalls_ok)) Try.func32 rfl (by decide) (by kernel_rfl) (by kernel_rfl) rfl (LpAllK.none _) ?_
  refine of_eq (B := letI z0 := (UInt8.ofBitVec (BitVec.ofFin (Fin.mk (34 : Nat) (Nat.mod_lt (Int.toNat (34 : Int)) (BitVec.ofNat._proof_1 (8 : Nat)))))); letI z17 := (unB (bytD s)); letI z7 := (z17 ++ [z0]); letI z9 := (Array.toList (ByteArray.data t)); letI z1 := ((unB (bytD z7)) ++ z9); letI z4 := (D.ptr (0 : Nat) (0 : Nat)); letI z19 := (s ++ (wdT (Wd.mk t q))); letI z16 := (Cap.toEnd (1 : Nat)); letI z2 := (Option.some (Blk.mk (44 : TypeId) [z4, (D.sl (2 : Nat) (0 : Nat) (List.length z19) z16)] Bool.true)); letI z13 := ((44 : Nat) = (44 : Nat)); letI z14 := ((5 : Nat) = (5 : Nat)); letI z3 := ((z13 ∧ (z14 ∧ ((0 : Nat) ≠ (1 : Nat)))) ∧ (AdrOk (0 : Nat) a)); letI z20 := (D.v (Value.string t)); letI z21 := (D.v (Value.bool q)); letI z5 := (Option.some (Blk.mk (51 : Nat) [z20, z21] Bool.true)); letI z6 := (Option.some (Blk.mk (5 : TypeId) (bytD z19) Bool.false)); letI z8 := (140737488355328 : Nat); letI z10 := (((0 : Nat) < (2 : Nat)) ∧ (IsStr z20)); letI z11 := (((0 : Int) ≤ (34 : Int)) ∧ ((34 : Int) < (256 : Int))); letI z12 := (D.tup ([] : List D)); letI z15 := List.length s; letI z18 := ((unB (bytD z1)) ++ [z0]); letI z22 := (AdrOk (0 : Nat) z4); (True ∧ (True ∧ ((((1 : Nat) < (2 : Nat)) ∧ (IsBool z21)) ∧ (True ∧ (pcond (!q) (True ∧ (True ∧ (z10 ∧ ((z3 ∧ ((BOk z15 (bytD s)) ∧ ((z15 + (ByteArray.size t)) ≤ z8))) ∧ (True ∧ (∃ (kp : (List KE)), (viewFin (2 : Nat) kp [(Option.some (Blk.mk (44 : Nat) [z4, (D.sl (3 : Nat) (0 : Nat) (List.length (z17 ++ z9)) z16)] Bool.true)), (Option.none), z5, (Option.some (Blk.mk (5 : Nat) (bytD (z17 ++ z9)) Bool.false))] z12 z12 [z2, (Option.none), z6]))))))) (True ∧ ((z3 ∧ (((BOk z15 (bytD s)) ∧ ((z15 + (1 : Nat)) ≤ z8)) ∧ z11)) ∧ (True ∧ (True ∧ (z10 ∧ ((((z13 ∧ (z14 ∧ ((0 : Nat) ≠ (3 : Nat)))) ∧ z22) ∧ ((BOk (List.length z7) (bytD z7)) ∧ (((List.length z7) + (ByteArray.size t)) ≤ z8))) ∧ (True ∧ ((((z13 ∧ (z14 ∧ ((0 : Nat) ≠ (4 : Nat)))) ∧ z22) ∧ (((BOk (List.length z1) (bytD z1)) ∧ (((List.length z1) + (1 : Nat)) ≤ z8)) ∧ z11)) ∧ (True ∧ (∃ (kp : (List KE)), (viewFin (2 : Nat) kp [(Option.some (Blk.mk (44 : Nat) [z4, (D.sl (5 : Nat) (0 : Nat) (List.length z18) z16)] Bool.true)), (Option.none), z5, (Option.none), (Option.none), (Option.some (Blk.mk (5 : Nat) (bytD z18) Bool.false))] z12 z12 [z2, (Option.none), z6]))))))))))))))))) (by kernel_rfl) ?_
  simp only [true_and, and_true, and_self, IsInt_lit, IsBool_lit, IsStr_lit, IsSl_lit, cellN_lit, cellL_lit, Bool.not_eq_true', Bool.not_eq_false', Bool.not_true, Bool.not_false, Int.reduceLE, Int.reduceLT, Int.reduceNeg, Nat.le_refl, Int.le_refl, Nat.reduceLT, Nat.reduceLeDiff, Nat.reduceEqDiff, D.v.injEq, D.tup.injEq, D.agg.injEq, D.ro.injEq, List.cons.injEq, Value.int.injEq, Value.bool.injEq, pcond_true, pcond_false, NamelessL, Nameless, Nat.reduceMul, Nat.reduceAdd, Nat.zero_add, Int.toNat_natCast, BOk_lit, unB_bytD]
  obtain ⟨ha, hs⟩ := hpre
  refine pcond_intro (fun hq => ⟨⟨⟨by decide, ha⟩, ?_⟩, [.nam 0, .dead, .old 3], ?_⟩) (fun hq => ?_)
  · rw [show q = false from by simpa using hq] at hs
    simp only [wdT, cond_false] at hs; rw [size_list]; exact hs
  · rw [show q = false from by simpa using hq]
    simp only [wdT, cond_false]
    refine of_eq (B := letI z0 := (s ++ (Array.toList (ByteArray.data t))); letI z1 := (D.sl (2 : Nat) (0 : Nat) (List.length z0) (Cap.toEnd (1 : Nat))); letI z2 := (Option.some (Blk.mk (5 : Nat) (bytD z0) Bool.false)); letI z3 := (D.ptr (0 : Nat) (0 : Nat)); letI z4 := ([] : List (Option Blk)); letI z5 := Bool.true = Bool.true; letI z6 := (D.tup ([] : List D)); (z5 ∧ ((((((44 : Nat) = (44 : Nat)) ∧ z5) ∧ ((True ∧ (z3 = z3)) ∧ ((True ∧ (z1 = z1)) ∧ (([] : List D) = ([] : List D))))) ∧ (((z2 = z2) ∧ (NamelessL (bytD z0))) ∧ (z4 = z4))) ∧ (True ∧ (z6 = z6))))) (by kernel_rfl) ?_
    simp [bytD_nl]
  · have hq : q = true := by simpa using hq
    subst hq
    simp only [wdT, cond_true, List.length_cons, List.length_append, List.length_nil] at hs
    have e : ∀ h, ({ toBitVec := { toFin := ⟨34, h⟩ } } : UInt8) = 34 := fun _ => rfl
    simp only [e]
    refine ⟨⟨⟨by decide, ha⟩, by omega⟩, ⟨⟨by decide, .inr rfl⟩, ?_⟩, ⟨⟨by decide, .inr rfl⟩, ?_⟩, [.nam 0, .dead, .old 5], ?_⟩
    · rw [List.length_append, size_list]; simp only [List.length_cons, List.length_nil]; omega
    · rw [List.length_append, List.length_append]; simp only [List.length_cons, List.length_nil]; omega
    · have e2 : s ++ [34] ++ t.data.toList ++ [34] = s ++ wdT ⟨t, true⟩ := by simp [wdT]
      rw [e2]
      refine of_eq (B := letI z0 := (s ++ (wdT (Wd.mk t Bool.true))); letI z1 := (D.sl (2 : Nat) (0 : Nat) (List.length z0) (Cap.toEnd (1 : Nat))); letI z2 := (Option.some (Blk.mk (5 : Nat) (bytD z0) Bool.false)); letI z3 := (D.ptr (0 : Nat) (0 : Nat)); letI z4 := ([] : List (Option Blk)); letI z5 := Bool.true = Bool.true; letI z6 := (D.tup ([] : List D)); (z5 ∧ ((((((44 : Nat) = (44 : Nat)) ∧ z5) ∧ ((True ∧ (z3 = z3)) ∧ ((True ∧ (z1 = z1)) ∧ (([] : List D) = ([] : List D))))) ∧ (((z2 = z2) ∧ (NamelessL (bytD z0))) ∧ (z4 = z4))) ∧ (True ∧ (z6 = z6))))) (by kernel_rfl) ?_
      simp [bytD_nl]
def entc_wword : EntC := fun ds H => match ds with
  | [.ptr b 0, .agg [.v (.string t), .v (.bool q)]] => match blkAt H b with
    | some ⟨ty, [a, .sl b1 0 n (.toEnd 1)], true⟩ => match blkAt H b1 with
      | some ⟨ty1, cs, f⟩ => some (.tup [], (H.set b (some ⟨ty, [.ptr b 0, .sl H.length 0 (unB cs ++ wdT ⟨t, q⟩).length (.toEnd 1)], true⟩)).set b1 none ++ [some ⟨ty1, bytD (unB cs ++ wdT ⟨t, q⟩), false⟩],
          ((ty = 44 ∧ ty1 = 5 ∧ b ≠ b1) ∧ AdrOk b a) ∧ BOk n cs ∧ n + (wdT ⟨t, q⟩).length ≤ 140737488355328)
      | none => none
    | _ => none
  | _ => none
theorem entc_wword_ok : EntCOk Try.prog 32 entc_wword := by
  intro ds H d H' p hd hc; unfold entc_wword at hd; split at hd
  · rename_i b t q
    split at hd
    · rename_i ty a b1 n hb
      split at hd
      · rename_i ty1 cs f hb1
        injection hd with hd
        simp only [Prod.mk.injEq] at hd
        obtain ⟨rfl, rfl, rfl⟩ := hd
        obtain ⟨⟨⟨rfl, rfl, hne⟩, ha⟩, ⟨h1, h2⟩, h3⟩ := hc
        generalize unB cs = s at *
        subst h1; subst h2
        exact bld_frame (fun a' ha' => wword_call s t q a' f ⟨ha', h3⟩) (by simp [namesD.namesA, namesD]) (fun g => rfl) (fun g => rfl) ha (blkAt_some hb) (blkAt_some hb1) hne
      · cases hd
    · cases hd
  · cases hd
theorem bld_frame1 {f : FuncId} {H : Heap} {b b1 : Nat} {d : D} {fl fl' : Bool} {s s' : List UInt8} {plain : List D}
    (small : CallJ Try.prog f (.ptr 0 0 :: plain) [some ⟨44, [.ptr 0 0, .sl 1 0 s.length (.toEnd 1)], true⟩, some ⟨5, bytD s, fl⟩] d [some ⟨44, [.ptr 0 0, .sl 2 0 s'.length (.toEnd 1)], true⟩, none, some ⟨5, bytD s', fl'⟩])
    (h1 : namesD.namesA plain = []) (h2 : ∀ g, rnL g plain = plain) (h3 : ∀ g, rnD g d = d)
    (hb : H[b]? = some (some ⟨44, [.ptr b 0, .sl b1 0 s.length (.toEnd 1)], true⟩)) (hb1 : H[b1]? = some (some ⟨5, bytD s, fl⟩)) (hne : b ≠ b1) :
    CallJ Try.prog f (.ptr b 0 :: plain) H d ((H.set b (some ⟨44, [.ptr b 0, .sl H.length 0 s'.length (.toEnd 1)], true⟩)).set b1 none ++ [some ⟨5, bytD s', fl'⟩]) := by
  have hlb := (List.getElem?_eq_some_iff.1 hb).1
  have hlb1 := (List.getElem?_eq_some_iff.1 hb1).1
  have g0 : gOf [b, b1] H.length 0 = b := by simp [gOf]
  have g1 : gOf [b, b1] H.length 1 = b1 := by simp [gOf]
  have g2 : gOf [b, b1] H.length 2 = H.length := by simp [gOf]
  have key := small.frames (σ := [b, b1]) (B := H) rfl (by simpa using hne) (by simp [hlb, hlb1]) (fun i blk hi => by
    match i, hi with
    | 0, hi =>
      simp only [List.getElem?_cons_zero, Option.some.injEq] at hi; subst hi
      refine ⟨b, rfl, ?_, ?_⟩
      · rw [hb]; simp only [rnB, rnL, rnD, g0, g1]
      · simp [namesD.namesA, namesD]
    | 1, hi =>
      simp only [List.getElem?_cons_succ, List.getElem?_cons_zero, Option.some.injEq] at hi; subst hi
      exact ⟨b1, rfl, by rw [hb1]; simp only [rnB, bytD_rn], by rw [bytD_names]; simp⟩
    | i + 2, hi => simp at hi) (by simp [namesD.namesA, namesD, h1])
  have e : frH [b, b1] H [some ⟨44, [.ptr 0 0, .sl 2 0 s'.length (.toEnd 1)], true⟩, none, some ⟨5, bytD s', fl'⟩] =
      (H.set b (some ⟨44, [.ptr b 0, .sl H.length 0 s'.length (.toEnd 1)], true⟩)).set b1 none ++ [some ⟨5, bytD s', fl'⟩] := by
    simp only [frH, List.map_cons, List.map_nil, Option.map_some, Option.map_none, rnB, rnL, rnD, bytD_rn, g0, g2, setAt, List.length_cons, List.length_nil, List.drop_succ_cons, List.drop_zero]
  rw [e] at key
  simpa only [rnL, rnD, g0, h2, h3] using key
def WriteIH (h : Nat) : Prop := ∀ (l : List Itm) (ind : ByteArray) (s : List UInt8) (a : D), hL l < h → (okL l ∧ l.length ≤ maxLen) → AdrOk 0 a → (l ≠ [] ∨ a = .ptr 0 0) → s.length + (fmtL l ind.data.toList).length ≤ 140737488355328 →
  CallJ Try.prog 20 [.ptr 0 0, .ro l.length (itemsD l), .v (.string ind)]
    [some ⟨44, [a, .sl 1 0 s.length (.toEnd 1)], true⟩, some ⟨5, bytD s, false⟩] (.tup [])
    [some ⟨44, [.ptr 0 0, .sl 2 0 (s ++ fmtL l ind.data.toList).length (.toEnd 1)], true⟩, none, some ⟨5, bytD (s ++ fmtL l ind.data.toList), false⟩]
theorem items_rn (g : Nat → Nat) (n : Nat) (l : List Itm) (ind : ByteArray) : rnL g [.ro n (itemsD l), .v (.string ind)] = [.ro n (itemsD l), .v (.string ind)] := rfl
def entc_writeR (h : Nat) : EntC := fun ds H => match ds with
  | [.ptr b 0, .ro k ys, .v (.string ind)] => match blkAt H b with
    | some ⟨ty, [.ptr b' 0, .sl b1 0 n (.toEnd 1)], true⟩ => match blkAt H b1 with
      | some ⟨ty1, cs, false⟩ => some (.tup [], (H.set b (some ⟨ty, [.ptr b 0, .sl H.length 0 (unB cs ++ fmtL (unI ys) ind.data.toList).length (.toEnd 1)], true⟩)).set b1 none ++ [some ⟨ty1, bytD (unB cs ++ fmtL (unI ys) ind.data.toList), false⟩],
          ((ty = 44 ∧ ty1 = 5 ∧ b ≠ b1) ∧ b' = b) ∧ (BOk n cs ∧ n + (fmtL (unI ys) ind.data.toList).length ≤ 140737488355328) ∧ IOk k ys ∧ hL (unI ys) < h)
      | _ => none
    | _ => none
  | _ => none
theorem entc_writeR_ok (h : Nat) (ih : WriteIH h) : EntCOk Try.prog 20 (entc_writeR h) := by
  intro ds H d H' p hd hc; unfold entc_writeR at hd; split at hd
  · rename_i b k ys ind
    split at hd
    · rename_i ty b' b1 n hb
      split at hd
      · rename_i ty1 cs hb1
        injection hd with hd
        simp only [Prod.mk.injEq] at hd
        obtain ⟨rfl, rfl, rfl⟩ := hd
        obtain ⟨⟨⟨rfl, rfl, hne⟩, rfl⟩, ⟨⟨h1, h2⟩, h3⟩, ⟨⟨g1, g2⟩, g3, g4⟩, hh⟩ := hc
        generalize unB cs = s at *
        generalize unI ys = l at *
        subst h1; subst h2; subst g1; subst g2
        have hlb := (List.getElem?_eq_some_iff.1 (blkAt_some hb)).1
        have small := ih l ind s (.ptr 0 0) hh ⟨g4, g3⟩ (.inr rfl) (.inr rfl) h3
        exact bld_frame1 small (by simp [namesD.namesA, namesD]) (fun g => rfl) (fun g => rfl) (blkAt_some hb) (blkAt_some hb1) hne
      · cases hd
    · cases hd
  · cases hd
end Go.Proofs.Ytahiigfpikohgaa
end
section
namespace Go.Proofs.Ytahiigfpikohgaa
open Go.VD
set_option linter.unusedVariables false
set_option linter.unusedSimpArgs false
set_option maxRecDepth 100000
def lp_writeIn (l : List Itm) (ind : ByteArray) (z : Nat × List UInt8) : LoopO := loopRuleK (α := Nat) (β := Unit) 2 [.nam 0, .dead, .old 4, .old 3] (fun j => z.1 < l.length ∧ j ≤ (l.getD z.1 default).ws.length ∧ z.2.length + (wsA (l.getD z.1 default).ws true).length ≤ 140737488355328) (fun j => [(0, .ptr 0 0), (2, .v (.string ind)), (7, .ptr 3 0), (10, .ro l.length (itemsD l)), (11, .v (.int .i64 (l.length : Int))), (12, .v (.int .i64 (z.1 : Int))), (20, .ro (l.getD z.1 default).ws.length (wordsD (l.getD z.1 default).ws)), (21, .v (.int .i64 ((l.getD z.1 default).ws.length : Int))), (22, .v (.int .i64 (j : Int)))]) (fun j => [some ⟨44, [.ptr 0 0, .sl 2 0 (z.2 ++ wsA ((l.getD z.1 default).ws.take j) true).length (.toEnd 1)], true⟩, none, some ⟨5, bytD (z.2 ++ wsA ((l.getD z.1 default).ws.take j) true), false⟩, some ⟨36, [.v (.int .i64 (l.getD z.1 default).line), .ro (l.getD z.1 default).ws.length (wordsD (l.getD z.1 default).ws), .v (.bool (l.getD z.1 default).bl), .ro (l.getD z.1 default).ks.length (itemsD (l.getD z.1 default).ks)], true⟩]) (0) (fun _ => True) (fun _ => (.exit 2, [(0, .ptr 0 0), (2, .v (.string ind)), (7, .ptr 3 0), (10, .ro l.length (itemsD l)), (11, .v (.int .i64 (l.length : Int))), (12, .v (.int .i64 (z.1 : Int)))], [some ⟨44, [.ptr 0 0, .sl 2 0 (z.2 ++ wsA (l.getD z.1 default).ws true).length (.toEnd 1)], true⟩, none, some ⟨5, bytD (z.2 ++ wsA (l.getD z.1 default).ws true), false⟩, some ⟨36, [.v (.int .i64 (l.getD z.1 default).line), .ro (l.getD z.1 default).ws.length (wordsD (l.getD z.1 default).ws), .v (.bool (l.getD z.1 default).bl), .ro (l.getD z.1 default).ks.length (itemsD (l.getD z.1 default).ks)], true⟩]))
theorem writeIn_rule (l : List Itm) (ind : ByteArray) (z : Nat × List UInt8) (hpre : okL l ∧ l.length ≤ maxLen) : LRuleK 2 Try.prog Try.f20.ntmps (loopAt (loopAt ((Try.f20.body).getD .skip) 1) 5) (lp_writeIn l ind z) := by
  refine lruleK_of (α := Nat) (β := Unit) (call := (addCall 31 (entc_wbyte) (addCall 32 (entc_wword) noCalls))) (lp := fun _ => none) (N := 10) T_ok mixed (addCall_ok (entc_wbyte_ok) (addCall_ok (entc_wword_ok) noCalls_ok)) (fun j => (l.getD z.1 default).ws.length - j) (by kernel_rfl) (LpAllK.none _) ?_
  intro x hJ
  refine of_eq (B := letI z0 := (List.getD l (Prod.fst z) (Inhabited.default)); letI z25 := (wordsD (Itm.ws z0)); letI z18 := ((x : Nat) : Int); letI z27 := ((Int.toNat z18) * (2 : Nat)); letI z12 := (List.getD z25 z27 (Inhabited.default)); letI z11 := (List.getD z25 (z27 + (1 : Nat)) (Inhabited.default)); letI z1 := (wdT (Wd.mk (cellStr z12) (cellBool z11))); letI z34 := (Exit.exit (2 : Nat)); letI z10 := (D.ptr (0 : Nat) (0 : Nat)); letI z21 := (Prod.mk (0 : Nat) z10); letI z15 := (Prod.mk (2 : Nat) (D.v (Value.string ind))); letI z14 := (Prod.mk (7 : Nat) (D.ptr (3 : Nat) (0 : Nat))); letI z33 := List.length l; letI z13 := (Prod.mk (10 : Nat) (D.ro z33 (itemsD l))); letI z8 := (Prod.mk (11 : Nat) (D.v (Value.int IntKind.i64 ((z33 : Nat) : Int)))); letI z9 := (Prod.mk (12 : Nat) (D.v (Value.int IntKind.i64 (((Prod.fst z) : Nat) : Int)))); letI z30 := (wsA (Itm.ws z0) Bool.true); letI z42 := ((Prod.snd z) ++ z30); letI z24 := (Cap.toEnd (1 : Nat)); letI z32 := (D.v (Value.int IntKind.i64 (Itm.line z0))); letI z5 := (List.length (Itm.ws z0)); letI z36 := (D.v (Value.bool (Itm.bl z0))); letI z29 := (D.ro (List.length (Itm.ks z0)) (itemsD (Itm.ks z0))); letI z6 := (Option.some (Blk.mk (36 : TypeId) [z32, (D.ro z5 z25), z36, z29] Bool.true)); letI z2 := (Prod.mk z34 (Prod.mk [z21, z15, z14, z13, z8, z9] [(Option.some (Blk.mk (44 : TypeId) [z10, (D.sl (2 : Nat) (0 : Nat) (List.length z42) z24)] Bool.true)), (Option.none), (Option.some (Blk.mk (5 : TypeId) (bytD z42) Bool.false)), z6])); letI z4 := ((Prod.snd z) ++ (wsA (List.take x (Itm.ws z0)) Bool.true)); letI z37 := (unB (bytD z4)); letI z3 := (z37 ++ [(UInt8.ofBitVec (BitVec.ofFin (Fin.mk (32 : Nat) (Nat.mod_lt (Int.toNat (32 : Int)) (BitVec.ofNat._proof_1 (8 : Nat))))))]); letI z7 := (Option.some (Blk.mk (36 : Nat) [z32, (D.ro z5 z25), z36, z29] Bool.true)); letI z35 := ((z5 : Nat) : Int); letI z16 := (Prod.mk (21 : Nat) (D.v (Value.int IntKind.i64 z35))); letI z17 := (Prod.mk (20 : Nat) (D.ro z5 z25)); letI z38 := ((44 : Nat) = (44 : Nat)); letI z39 := ((5 : Nat) = (5 : Nat)); letI z41 := (AdrOk (0 : Nat) z10); letI z19 := ((z38 ∧ (z39 ∧ ((0 : Nat) ≠ (2 : Nat)))) ∧ z41); letI z20 := (Option.some (Blk.mk (51 : Nat) [(D.v (Value.string (cellStr z12))), (D.v (Value.bool (cellBool z11)))] Bool.true)); letI z26 := (140737488355328 : Nat); letI z22 := (((List.length (Prod.snd z)) + (List.length z30)) ≤ z26); letI z23 := (Prod.mk (22 : Nat) (D.v (Value.int IntKind.i64 (IntKind.wrap IntKind.i64 (z18 + (1 : Int)))))); letI z28 := List.length z4; letI z31 := ((2 : Nat) ≤ (2 : Nat)); letI z40 := ((unB (bytD z3)) ++ z1); letI z43 := ((Prod.fst z) < z33); letI z44 := (BOk z28 (bytD z4)); (True ∧ (pcond (Decidable.decide (z18 < z35)) (True ∧ ((((0 : Int) ≤ z18) ∧ (z18 < z35)) ∧ ((((z27 + (2 : Nat)) ≤ (List.length z25)) ∧ ((IsStr z12) ∧ ((IsBool z11) ∧ True))) ∧ (True ∧ (True ∧ ((((2 : Nat) = (2 : Nat)) ∧ z31) ∧ (True ∧ (True ∧ (pcond (Decidable.decide ((0 : Int) < z18)) (True ∧ ((z19 ∧ ((z44 ∧ ((z28 + (1 : Nat)) ≤ z26)) ∧ (((0 : Int) ≤ (32 : Int)) ∧ ((32 : Int) < (256 : Int))))) ∧ (True ∧ (z31 ∧ ((((z38 ∧ (z39 ∧ ((0 : Nat) ≠ (5 : Nat)))) ∧ z41) ∧ ((BOk (List.length z3) (bytD z3)) ∧ (((List.length z3) + (List.length z1)) ≤ z26))) ∧ (True ∧ (True ∧ (∃ (y : Nat), (∃ (kp : (List KE)), (((z5 - y) < (z5 - x)) ∧ ((z43 ∧ ((y ≤ z5) ∧ z22)) ∧ (viewAllK (2 : Nat) kp [z21, z15, z14, z13, z8, z9, z17, z16, z23] [(Option.some (Blk.mk (44 : Nat) [z10, (D.sl (6 : Nat) (0 : Nat) (List.length z40) z24)] Bool.true)), (Option.none), (Option.none), z7, z20, (Option.none), (Option.some (Blk.mk (5 : Nat) (bytD z40) Bool.false))] [z21, z15, z14, z13, z8, z9, z17, z16, (Prod.mk (22 : Nat) (D.v (Value.int IntKind.i64 ((y : Nat) : Int))))] [(Option.some (Blk.mk (44 : TypeId) [z10, (D.sl (2 : Nat) (0 : Nat) (List.length ((Prod.snd z) ++ (wsA (List.take y (Itm.ws z0)) Bool.true))) z24)] Bool.true)), (Option.none), (Option.some (Blk.mk (5 : TypeId) (bytD ((Prod.snd z) ++ (wsA (List.take y (Itm.ws z0)) Bool.true))) Bool.false)), z6])))))))))))) (True ∧ (z31 ∧ ((z19 ∧ (z44 ∧ ((z28 + (List.length z1)) ≤ z26))) ∧ (True ∧ (True ∧ (∃ (y : Nat), (∃ (kp : (List KE)), (((z5 - y) < (z5 - x)) ∧ ((z43 ∧ ((y ≤ z5) ∧ z22)) ∧ (viewAllK (2 : Nat) kp [z21, z15, z14, z13, z8, z9, z17, z16, z23] [(Option.some (Blk.mk (44 : Nat) [z10, (D.sl (5 : Nat) (0 : Nat) (List.length (z37 ++ z1)) z24)] Bool.true)), (Option.none), (Option.none), z7, z20, (Option.some (Blk.mk (5 : Nat) (bytD (z37 ++ z1)) Bool.false))] [z21, z15, z14, z13, z8, z9, z17, z16, (Prod.mk (22 : Nat) (D.v (Value.int IntKind.i64 ((y : Nat) : Int))))] [(Option.some (Blk.mk (44 : TypeId) [z10, (D.sl (2 : Nat) (0 : Nat) (List.length ((Prod.snd z) ++ (wsA (List.take y (Itm.ws z0)) Bool.true))) z24)] Bool.true)), (Option.none), (Option.some (Blk.mk (5 : TypeId) (bytD ((Prod.snd z) ++ (wsA (List.take y (Itm.ws z0)) Bool.true))) Bool.false)), z6]))))))))))))))))))) (∃ (r : Unit), (∃ (kp : (List KE)), (True ∧ ((z34 = z34) ∧ (viewAllK (2 : Nat) kp [z21, z15, z14, z13, z8, z9] [(Option.some (Blk.mk (44 : Nat) [z10, (D.sl (2 : Nat) (0 : Nat) z28 z24)] Bool.true)), (Option.none), (Option.some (Blk.mk (5 : Nat) (bytD z4) Bool.false)), z7] (Prod.fst (Prod.snd ((fun (x_1 : Unit) => z2) r))) (Prod.snd (Prod.snd ((fun (x_1 : Unit) => z2) r))))))))))) (by kernel_rfl) ?_
  simp only [true_and, and_true, and_self, IsInt_lit, IsBool_lit, IsStr_lit, IsSl_lit, cellN_lit, cellL_lit, Bool.not_eq_true', Bool.not_eq_false', Bool.not_true, Bool.not_false, Int.reduceLE, Int.reduceLT, Int.reduceNeg, Nat.le_refl, Int.le_refl, Nat.reduceLT, Nat.reduceLeDiff, Nat.reduceEqDiff, D.v.injEq, D.tup.injEq, D.agg.injEq, D.ro.injEq, List.cons.injEq, Value.int.injEq, Value.bool.injEq, pcond_true, pcond_false, NamelessL, Nameless, Nat.reduceMul, Nat.reduceAdd, Nat.zero_add, Int.toNat_natCast, BOk_lit, unB_bytD] at *
  obtain ⟨ho, hlm⟩ := hpre
  obtain ⟨hz, hx, hsz⟩ := hJ
  have hu := okL_get l z.1 ho hz
  generalize l.getD z.1 default = u at *
  obtain ⟨o1, o2, o3, o4⟩ := okI_parts hu
  simp only [maxLen] at o1
  refine pcond_intro (fun h1 => ?_) (fun h1 => ?_)
  · simp only [decide_eq_true_eq] at h1
    have hxl : x < u.ws.length := by omega
    obtain ⟨g0, g1⟩ := wordsD_get u.ws x hxl
    have l1 := wordsD_length u.ws
    have hi : IntKind.i64.wrap ((x : Int) + 1) = ((x + 1 : Nat) : Int) := by rw [wrap_i64_of (by omega) (by omega)]; omega
    simp only [g0, g1, cellStr_lit, cellBool_lit, IsStr_lit, IsBool_lit, hi]
    have e34 : ∀ h, ({ toBitVec := { toFin := ⟨32, h⟩ } } : UInt8) = 32 := fun _ => rfl
    have st := wsA_step hxl
    have le := wsA_le u.ws (x + 1)
    rw [show (⟨(u.ws.getD x default).t, (u.ws.getD x default).q⟩ : Wd) = u.ws.getD x default from rfl]
    simp only [e34]
    refine ⟨by omega, ⟨by omega, trivial, trivial⟩, pcond_intro (fun h2 => ?_) (fun h2 => ?_)⟩
    · simp only [decide_eq_true_eq] at h2
      rw [decide_eq_false (show ¬ x = 0 by omega), cond_false] at st
      have e1 : z.2 ++ wsA (u.ws.take x) true ++ [32] ++ wdT (u.ws.getD x default) = z.2 ++ wsA (u.ws.take (x + 1)) true := by rw [st]; simp
      have ll := congrArg List.length st
      simp only [List.length_append, List.length_cons, List.length_nil] at ll
      refine ⟨⟨⟨by decide, .inr rfl⟩, ?_⟩, ⟨⟨by decide, .inr rfl⟩, ?_⟩, x + 1, [.nam 0, .dead, .old 6, .old 3], by omega, ⟨hz, by omega, hsz⟩, ?_⟩
      · rw [List.length_append]; omega
      · simp only [List.length_append, List.length_cons, List.length_nil]; omega
      · rw [e1]
        refine of_eq (B := letI z0 := ((Prod.snd z) ++ (wsA (List.take (x + (1 : Nat)) (Itm.ws u)) Bool.true)); letI z11 := (D.v (Value.int IntKind.i64 (Itm.line u))); letI z17 := (List.length (Itm.ws u)); letI z2 := (D.ro z17 (wordsD (Itm.ws u))); letI z13 := (D.v (Value.bool (Itm.bl u))); letI z10 := (D.ro (List.length (Itm.ks u)) (itemsD (Itm.ks u))); letI z1 := (Option.some (Blk.mk (36 : Nat) [z11, z2, z13, z10] Bool.true)); letI z3 := (D.ptr (0 : Nat) (0 : Nat)); letI z4 := (D.v (Value.int IntKind.i64 ((z17 : Nat) : Int))); letI z5 := (D.sl (2 : Nat) (0 : Nat) (List.length z0) (Cap.toEnd (1 : Nat))); letI z6 := (D.v (Value.int IntKind.i64 (((List.length l) : Nat) : Int))); letI z7 := (D.v (Value.int IntKind.i64 (((x + (1 : Nat)) : Nat) : Int))); letI z8 := (D.v (Value.int IntKind.i64 (((Prod.fst z) : Nat) : Int))); letI z9 := (Option.some (Blk.mk (5 : Nat) (bytD z0) Bool.false)); letI z12 := (D.ro (List.length l) (itemsD l)); letI z14 := (D.ptr (3 : Nat) (0 : Nat)); letI z15 := ([] : List (Option Blk)); letI z16 := (D.v (Value.string ind)); letI z18 := Bool.true = Bool.true; letI z19 := (True ∧ (z3 = z3)); (z18 ∧ ((((((44 : Nat) = (44 : Nat)) ∧ z18) ∧ (z19 ∧ ((True ∧ (z5 = z5)) ∧ (([] : List D) = ([] : List D))))) ∧ (((z9 = z9) ∧ (NamelessL (bytD z0))) ∧ (((z1 = z1) ∧ (NamelessL [z11, z2, z13, z10])) ∧ (z15 = z15)))) ∧ (z19 ∧ ((True ∧ (z16 = z16)) ∧ ((True ∧ (z14 = z14)) ∧ ((True ∧ (z12 = z12)) ∧ ((True ∧ (z6 = z6)) ∧ ((True ∧ (z8 = z8)) ∧ ((True ∧ (z2 = z2)) ∧ ((True ∧ (z4 = z4)) ∧ ((True ∧ (z7 = z7)) ∧ True)))))))))))) (by kernel_rfl) ?_
        simp [NamelessL, Nameless, bytD_nl, wordsD_nl, itemsD_nl]
    · simp only [decide_eq_false_iff_not] at h2
      rw [decide_eq_true (show x = 0 by omega), cond_true, List.nil_append] at st
      have e1 : z.2 ++ wsA (u.ws.take x) true ++ wdT (u.ws.getD x default) = z.2 ++ wsA (u.ws.take (x + 1)) true := by rw [st]; simp
      have ll := congrArg List.length st
      simp only [List.length_append] at ll
      refine ⟨⟨⟨by decide, .inr rfl⟩, ?_⟩, x + 1, [.nam 0, .dead, .old 5, .old 3], by omega, ⟨hz, by omega, hsz⟩, ?_⟩
      · simp only [List.length_append]; omega
      · rw [e1]
        refine of_eq (B := letI z0 := ((Prod.snd z) ++ (wsA (List.take (x + (1 : Nat)) (Itm.ws u)) Bool.true)); letI z11 := (D.v (Value.int IntKind.i64 (Itm.line u))); letI z17 := (List.length (Itm.ws u)); letI z2 := (D.ro z17 (wordsD (Itm.ws u))); letI z13 := (D.v (Value.bool (Itm.bl u))); letI z10 := (D.ro (List.length (Itm.ks u)) (itemsD (Itm.ks u))); letI z1 := (Option.some (Blk.mk (36 : Nat) [z11, z2, z13, z10] Bool.true)); letI z3 := (D.ptr (0 : Nat) (0 : Nat)); letI z4 := (D.v (Value.int IntKind.i64 ((z17 : Nat) : Int))); letI z5 := (D.sl (2 : Nat) (0 : Nat) (List.length z0) (Cap.toEnd (1 : Nat))); letI z6 := (D.v (Value.int IntKind.i64 (((List.length l) : Nat) : Int))); letI z7 := (D.v (Value.int IntKind.i64 (((x + (1 : Nat)) : Nat) : Int))); letI z8 := (D.v (Value.int IntKind.i64 (((Prod.fst z) : Nat) : Int))); letI z9 := (Option.some (Blk.mk (5 : Nat) (bytD z0) Bool.false)); letI z12 := (D.ro (List.length l) (itemsD l)); letI z14 := (D.ptr (3 : Nat) (0 : Nat)); letI z15 := ([] : List (Option Blk)); letI z16 := (D.v (Value.string ind)); letI z18 := Bool.true = Bool.true; letI z19 := (True ∧ (z3 = z3)); (z18 ∧ ((((((44 : Nat) = (44 : Nat)) ∧ z18) ∧ (z19 ∧ ((True ∧ (z5 = z5)) ∧ (([] : List D) = ([] : List D))))) ∧ (((z9 = z9) ∧ (NamelessL (bytD z0))) ∧ (((z1 = z1) ∧ (NamelessL [z11, z2, z13, z10])) ∧ (z15 = z15)))) ∧ (z19 ∧ ((True ∧ (z16 = z16)) ∧ ((True ∧ (z14 = z14)) ∧ ((True ∧ (z12 = z12)) ∧ ((True ∧ (z6 = z6)) ∧ ((True ∧ (z8 = z8)) ∧ ((True ∧ (z2 = z2)) ∧ ((True ∧ (z4 = z4)) ∧ ((True ∧ (z7 = z7)) ∧ True)))))))))))) (by kernel_rfl) ?_
        simp [NamelessL, Nameless, bytD_nl, wordsD_nl, itemsD_nl]
  · simp only [decide_eq_false_iff_not] at h1
    have e : u.ws.take x = u.ws := List.take_of_length_le (by omega)
    rw [e]
    refine ⟨(), [.nam 0, .dead, .old 2, .old 3], ?_⟩
    refine of_eq (B := letI z9 := (D.v (Value.int IntKind.i64 (Itm.line u))); letI z7 := (D.ro (List.length (Itm.ws u)) (wordsD (Itm.ws u))); letI z11 := (D.v (Value.bool (Itm.bl u))); letI z8 := (D.ro (List.length (Itm.ks u)) (itemsD (Itm.ks u))); letI z0 := (Option.some (Blk.mk (36 : Nat) [z9, z7, z11, z8] Bool.true)); letI z1 := ((Prod.snd z) ++ (wsA (Itm.ws u) Bool.true)); letI z2 := (D.ptr (0 : Nat) (0 : Nat)); letI z3 := (D.sl (2 : Nat) (0 : Nat) (List.length z1) (Cap.toEnd (1 : Nat))); letI z4 := (D.v (Value.int IntKind.i64 (((List.length l) : Nat) : Int))); letI z5 := (D.v (Value.int IntKind.i64 (((Prod.fst z) : Nat) : Int))); letI z6 := (Option.some (Blk.mk (5 : Nat) (bytD z1) Bool.false)); letI z10 := (D.ro (List.length l) (itemsD l)); letI z12 := (D.ptr (3 : Nat) (0 : Nat)); letI z13 := ([] : List (Option Blk)); letI z14 := (D.v (Value.string ind)); letI z15 := Bool.true = Bool.true; letI z16 := (True ∧ (z2 = z2)); (z15 ∧ ((((((44 : Nat) = (44 : Nat)) ∧ z15) ∧ (z16 ∧ ((True ∧ (z3 = z3)) ∧ (([] : List D) = ([] : List D))))) ∧ (((z6 = z6) ∧ (NamelessL (bytD z1))) ∧ (((z0 = z0) ∧ (NamelessL [z9, z7, z11, z8])) ∧ (z13 = z13)))) ∧ (z16 ∧ ((True ∧ (z14 = z14)) ∧ ((True ∧ (z12 = z12)) ∧ ((True ∧ (z10 = z10)) ∧ ((True ∧ (z4 = z4)) ∧ ((True ∧ (z5 = z5)) ∧ True))))))))) (by kernel_rfl) ?_
    simp [NamelessL, Nameless, bytD_nl, wordsD_nl, itemsD_nl]
def adrAt (a : D) : Nat → D
  | 0 => a
  | _ + 1 => .ptr 0 0
theorem adrAt_ok {a : D} (h : AdrOk 0 a) : ∀ i, AdrOk 0 (adrAt a i)
  | 0 => h
  | _ + 1 => .inr rfl
def lp_writeOut (l : List Itm) (ind : ByteArray) (s : List UInt8) (a : D) (h : Nat) : LoopO := loopRuleK (α := Nat) (β := Unit) 2 [.nam 0, .dead, .old 1] (fun i => i ≤ l.length) (fun i => [(0, .ptr 0 0), (2, .v (.string ind)), (10, .ro l.length (itemsD l)), (11, .v (.int .i64 (l.length : Int))), (12, .v (.int .i64 (i : Int)))]) (fun i => [some ⟨44, [adrAt a i, .sl 2 0 (s ++ fmtL (l.take i) ind.data.toList).length (.toEnd 1)], true⟩, none, some ⟨5, bytD (s ++ fmtL (l.take i) ind.data.toList), false⟩]) (0) (fun _ => True) (fun _ => (.exit 0, [], [some ⟨44, [.ptr 0 0, .sl 2 0 (s ++ fmtL l ind.data.toList).length (.toEnd 1)], true⟩, none, some ⟨5, bytD (s ++ fmtL l ind.data.toList), false⟩]))
theorem writeOut_rule (l : List Itm) (ind : ByteArray) (s : List UInt8) (a : D) (h : Nat) (hpre : WriteIH h ∧ hL l ≤ h ∧ (okL l ∧ l.length ≤ maxLen) ∧ (AdrOk 0 a ∧ (l ≠ [] ∨ a = .ptr 0 0)) ∧ s.length + (fmtL l ind.data.toList).length ≤ 140737488355328) : LRuleK 2 Try.prog Try.f20.ntmps (loopAt ((Try.f20.body).getD .skip) 1) (lp_writeOut l ind s a h) := by
  refine lruleK_of (α := Nat) (β := Unit) (call := (addCall 30 (entc_wstr) (addCall 20 (entc_writeR h) noCalls))) (lp := fun k => bif Nat.beq k 5 then some (exLoop (fun p : Nat × List UInt8 => lp_writeIn l ind p)) else none) (N := 10) T_ok mixed (addCall_ok (entc_wstr_ok) (addCall_ok (entc_writeR_ok h hpre.1) noCalls_ok)) (fun i => l.length - i) (by kernel_rfl) (of_eq (B := LRuleK 2 Try.prog Try.f20.ntmps (loopAt (loopAt ((Try.f20.body).getD .skip) 1) 5) (exLoop (fun p : Nat × List UInt8 => lp_writeIn l ind p)) ∧ True) (by kernel_rfl) ⟨exLoopK_rule (fun p : Nat × List UInt8 => writeIn_rule l ind p (hpre.2.2.1)), trivial⟩) ?_
  intro x hJ
  refine of_eq (B := letI z0 := (Array.toList (ByteArray.data ind)); letI z18 := ((x : Nat) : Int); letI z22 := ((Int.toNat z18) * (4 : Nat)); letI z1 := (z22 + (1 : Nat)); letI z2 := (Array.toList (Array.mk (z0 ++ [(32 : UInt8), (32 : UInt8)]))); letI z3 := (D.ptr (0 : Nat) (0 : Nat)); letI z4 := (List.getD (itemsD l) z1 (Inhabited.default)); letI z9 := List.length l; letI z32 := ((z9 : Nat) : Int); letI z5 := (D.v (Value.int IntKind.i64 z32)); letI z29 := (Exit.exit (0 : Nat)); letI z39 := ([] : List (Prod Nat D)); letI z12 := (Cap.toEnd (1 : Nat)); letI z6 := (Prod.mk z29 (Prod.mk z39 [(Option.some (Blk.mk (44 : TypeId) [z3, (D.sl (2 : Nat) (0 : Nat) (List.length (s ++ (fmtL l z0))) z12)] Bool.true)), (Option.none), (Option.some (Blk.mk (5 : TypeId) (bytD (s ++ (fmtL l z0))) Bool.false))])); letI z7 := (List.getD (itemsD l) ((z1 + (1 : Nat)) + (1 : Nat)) (Inhabited.default)); letI z8 := (s ++ (fmtL (List.take x l) z0)); letI z17 := ((44 : Nat) = (44 : Nat)); letI z20 := ((5 : Nat) = (5 : Nat)); letI z10 := (z17 ∧ (z20 ∧ ((0 : Nat) ≠ (2 : Nat)))); letI z11 := (List.getD (itemsD l) z22 (Inhabited.default)); letI z25 := (D.v (Value.string ind)); letI z13 := (Prod.mk (2 : Nat) z25); letI z14 := (140737488355328 : Nat); letI z31 := (D.ro z9 (itemsD l)); letI z15 := (Prod.mk (10 : Nat) z31); letI z16 := (List.getD (itemsD l) (z1 + (1 : Nat)) (Inhabited.default)); letI z19 := (Prod.mk (11 : Nat) z5); letI z21 := (Prod.mk (0 : Nat) z3); letI z23 := (AdrOk (0 : Nat) z3); letI z24 := (D.ro (cellN z4) (cellL z4)); letI z26 := ((unB (bytD z8)) ++ z0); letI z27 := (D.v (Value.int IntKind.i64 (cellInt z11))); letI z28 := (D.v (Value.int IntKind.i64 (0 : Int))); letI z30 := ByteArray.size ind; letI z33 := (D.v (Value.bool (cellBool z16))); letI z34 := (wsA ([] : List Wd) Bool.true); letI z35 := List.length z8; letI z36 := (D.ro (cellN z7) (cellL z7)); letI z37 := (D.ptr (3 : Nat) (0 : Nat)); letI z38 := ([] : List (Option Blk)); letI z40 := Bool.true = Bool.true; letI z41 := (True ∧ (z3 = z3)); (True ∧ (pcond (Decidable.decide (z18 < z32)) ((((0 : Int) ≤ z18) ∧ (z18 < z32)) ∧ ((((z22 + (4 : Nat)) ≤ (List.length (itemsD l))) ∧ ((IsInt IntKind.i64 z11) ∧ ((IsSl z4) ∧ ((IsBool z16) ∧ ((IsSl z7) ∧ True))))) ∧ (True ∧ ((((4 : Nat) = (4 : Nat)) ∧ ((4 : Nat) ≤ (4 : Nat))) ∧ (True ∧ (True ∧ (((z10 ∧ (AdrOk (0 : Nat) (adrAt a x))) ∧ ((BOk z35 (bytD z8)) ∧ ((z35 + z30) ≤ z14))) ∧ (True ∧ (((1 : Nat) < (4 : Nat)) ∧ (True ∧ (True ∧ (∃ (a_1 : (Prod Nat (List UInt8))), ((((Prod.fst a_1) < z9) ∧ (((0 : Nat) ≤ (List.length (Itm.ws (List.getD l (Prod.fst a_1) (Inhabited.default))))) ∧ (((List.length (Prod.snd a_1)) + (List.length (wsA (Itm.ws (List.getD l (Prod.fst a_1) (Inhabited.default))) Bool.true))) ≤ z14))) ∧ ((z40 ∧ ((((z17 ∧ z40) ∧ (z41 ∧ ((True ∧ ((D.sl (2 : Nat) (0 : Nat) (List.length z26) z12) = (D.sl (2 : Nat) (0 : Nat) (List.length ((Prod.snd a_1) ++ z34)) z12))) ∧ (([] : List D) = ([] : List D))))) ∧ ((((Option.some (Blk.mk (5 : Nat) (bytD ((Prod.snd a_1) ++ z34)) Bool.false)) = (Option.some (Blk.mk (5 : Nat) (bytD z26) Bool.false))) ∧ (NamelessL (bytD z26))) ∧ ((((Option.some (Blk.mk (36 : Nat) [(D.v (Value.int IntKind.i64 (Itm.line (List.getD l (Prod.fst a_1) (Inhabited.default))))), (D.ro (List.length (Itm.ws (List.getD l (Prod.fst a_1) (Inhabited.default)))) (wordsD (Itm.ws (List.getD l (Prod.fst a_1) (Inhabited.default))))), (D.v (Value.bool (Itm.bl (List.getD l (Prod.fst a_1) (Inhabited.default))))), (D.ro (List.length (Itm.ks (List.getD l (Prod.fst a_1) (Inhabited.default)))) (itemsD (Itm.ks (List.getD l (Prod.fst a_1) (Inhabited.default)))))] Bool.true)) = (Option.some (Blk.mk (36 : Nat) [z27, z24, z33, z36] Bool.true))) ∧ (NamelessL [z27, z24, z33, z36])) ∧ (z38 = z38)))) ∧ (z41 ∧ ((True ∧ (z25 = z25)) ∧ ((True ∧ (z37 = z37)) ∧ ((True ∧ (z31 = z31)) ∧ ((True ∧ (z5 = z5)) ∧ ((True ∧ ((D.v (Value.int IntKind.i64 z18)) = (D.v (Value.int IntKind.i64 (((Prod.fst a_1) : Nat) : Int))))) ∧ ((True ∧ (z24 = (D.ro (List.length (Itm.ws (List.getD l (Prod.fst a_1) (Inhabited.default)))) (wordsD (Itm.ws (List.getD l (Prod.fst a_1) (Inhabited.default))))))) ∧ ((True ∧ ((D.v (Value.int IntKind.i64 (((cellN z4) : Nat) : Int))) = (D.v (Value.int IntKind.i64 (((List.length (Itm.ws (List.getD l (Prod.fst a_1) (Inhabited.default)))) : Nat) : Int))))) ∧ ((True ∧ (z28 = z28)) ∧ True))))))))))) ∧ (Unit → (True → (True ∧ ((((2 : Nat) < (4 : Nat)) ∧ (IsBool (D.v (Value.bool (Itm.bl (List.getD l (Prod.fst a_1) (Inhabited.default))))))) ∧ (True ∧ (pcond (!(Itm.bl (List.getD l (Prod.fst a_1) (Inhabited.default)))) (True ∧ (((z10 ∧ z23) ∧ ((BOk (List.length ((Prod.snd a_1) ++ (wsA (Itm.ws (List.getD l (Prod.fst a_1) (Inhabited.default))) Bool.true))) (bytD ((Prod.snd a_1) ++ (wsA (Itm.ws (List.getD l (Prod.fst a_1) (Inhabited.default))) Bool.true)))) ∧ (((List.length ((Prod.snd a_1) ++ (wsA (Itm.ws (List.getD l (Prod.fst a_1) (Inhabited.default))) Bool.true))) + (2 : Nat)) ≤ z14))) ∧ (True ∧ (True ∧ (∃ (y : Nat), (∃ (kp : (List KE)), (((z9 - y) < (z9 - x)) ∧ ((y ≤ z9) ∧ (viewAllK (2 : Nat) kp [z21, z13, z15, z19, (Prod.mk (12 : Nat) (D.v (Value.int IntKind.i64 (IntKind.wrap IntKind.i64 ((((Prod.fst a_1) : Nat) : Int) + (1 : Int))))))] [(Option.some (Blk.mk (44 : Nat) [z3, (D.sl (4 : Nat) (0 : Nat) (List.length ((unB (bytD ((Prod.snd a_1) ++ (wsA (Itm.ws (List.getD l (Prod.fst a_1) (Inhabited.default))) Bool.true)))) ++ [(59 : UInt8), (10 : UInt8)])) z12)] Bool.true)), (Option.none), (Option.none), (Option.some (Blk.mk (36 : Nat) [(D.v (Value.int IntKind.i64 (Itm.line (List.getD l (Prod.fst a_1) (Inhabited.default))))), (D.ro (List.length (Itm.ws (List.getD l (Prod.fst a_1) (Inhabited.default)))) (wordsD (Itm.ws (List.getD l (Prod.fst a_1) (Inhabited.default))))), (D.v (Value.bool (Itm.bl (List.getD l (Prod.fst a_1) (Inhabited.default))))), (D.ro (List.length (Itm.ks (List.getD l (Prod.fst a_1) (Inhabited.default)))) (itemsD (Itm.ks (List.getD l (Prod.fst a_1) (Inhabited.default)))))] Bool.true)), (Option.some (Blk.mk (5 : Nat) (bytD ((unB (bytD ((Prod.snd a_1) ++ (wsA (Itm.ws (List.getD l (Prod.fst a_1) (Inhabited.default))) Bool.true)))) ++ [(59 : UInt8), (10 : UInt8)])) Bool.false))] [z21, z13, z15, z19, (Prod.mk (12 : Nat) (D.v (Value.int IntKind.i64 ((y : Nat) : Int))))] [(Option.some (Blk.mk (44 : TypeId) [(adrAt a y), (D.sl (2 : Nat) (0 : Nat) (List.length (s ++ (fmtL (List.take y l) z0))) z12)] Bool.true)), (Option.none), (Option.some (Blk.mk (5 : TypeId) (bytD (s ++ (fmtL (List.take y l) z0))) Bool.false))]))))))))) (True ∧ (((z10 ∧ z23) ∧ ((BOk (List.length ((Prod.snd a_1) ++ (wsA (Itm.ws (List.getD l (Prod.fst a_1) (Inhabited.default))) Bool.true))) (bytD ((Prod.snd a_1) ++ (wsA (Itm.ws (List.getD l (Prod.fst a_1) (Inhabited.default))) Bool.true)))) ∧ (((List.length ((Prod.snd a_1) ++ (wsA (Itm.ws (List.getD l (Prod.fst a_1) (Inhabited.default))) Bool.true))) + (3 : Nat)) ≤ z14))) ∧ (True ∧ (True ∧ (((3 : Nat) < (4 : Nat)) ∧ (True ∧ (((((z30 + (2 : Nat)) : Nat) : Int) ≤ (9223372036854775807 : Int)) ∧ ((((z17 ∧ (z20 ∧ ((0 : Nat) ≠ (4 : Nat)))) ∧ ((0 : Nat) = (0 : Nat))) ∧ (((BOk (List.length ((unB (bytD ((Prod.snd a_1) ++ (wsA (Itm.ws (List.getD l (Prod.fst a_1) (Inhabited.default))) Bool.true)))) ++ [(32 : UInt8), (123 : UInt8), (10 : UInt8)])) (bytD ((unB (bytD ((Prod.snd a_1) ++ (wsA (Itm.ws (List.getD l (Prod.fst a_1) (Inhabited.default))) Bool.true)))) ++ [(32 : UInt8), (123 : UInt8), (10 : UInt8)]))) ∧ (((List.length ((unB (bytD ((Prod.snd a_1) ++ (wsA (Itm.ws (List.getD l (Prod.fst a_1) (Inhabited.default))) Bool.true)))) ++ [(32 : UInt8), (123 : UInt8), (10 : UInt8)])) + (List.length (fmtL (unI (itemsD (Itm.ks (List.getD l (Prod.fst a_1) (Inhabited.default))))) z2))) ≤ z14)) ∧ ((IOk (List.length (Itm.ks (List.getD l (Prod.fst a_1) (Inhabited.default)))) (itemsD (Itm.ks (List.getD l (Prod.fst a_1) (Inhabited.default))))) ∧ ((hL (unI (itemsD (Itm.ks (List.getD l (Prod.fst a_1) (Inhabited.default)))))) < h)))) ∧ (True ∧ (True ∧ ((((z17 ∧ (z20 ∧ ((0 : Nat) ≠ (5 : Nat)))) ∧ z23) ∧ ((BOk (List.length ((unB (bytD ((unB (bytD ((Prod.snd a_1) ++ (wsA (Itm.ws (List.getD l (Prod.fst a_1) (Inhabited.default))) Bool.true)))) ++ [(32 : UInt8), (123 : UInt8), (10 : UInt8)]))) ++ (fmtL (unI (itemsD (Itm.ks (List.getD l (Prod.fst a_1) (Inhabited.default))))) z2))) (bytD ((unB (bytD ((unB (bytD ((Prod.snd a_1) ++ (wsA (Itm.ws (List.getD l (Prod.fst a_1) (Inhabited.default))) Bool.true)))) ++ [(32 : UInt8), (123 : UInt8), (10 : UInt8)]))) ++ (fmtL (unI (itemsD (Itm.ks (List.getD l (Prod.fst a_1) (Inhabited.default))))) z2)))) ∧ (((List.length ((unB (bytD ((unB (bytD ((Prod.snd a_1) ++ (wsA (Itm.ws (List.getD l (Prod.fst a_1) (Inhabited.default))) Bool.true)))) ++ [(32 : UInt8), (123 : UInt8), (10 : UInt8)]))) ++ (fmtL (unI (itemsD (Itm.ks (List.getD l (Prod.fst a_1) (Inhabited.default))))) z2))) + z30) ≤ z14))) ∧ (True ∧ ((((z17 ∧ (z20 ∧ ((0 : Nat) ≠ (6 : Nat)))) ∧ z23) ∧ ((BOk (List.length ((unB (bytD ((unB (bytD ((unB (bytD ((Prod.snd a_1) ++ (wsA (Itm.ws (List.getD l (Prod.fst a_1) (Inhabited.default))) Bool.true)))) ++ [(32 : UInt8), (123 : UInt8), (10 : UInt8)]))) ++ (fmtL (unI (itemsD (Itm.ks (List.getD l (Prod.fst a_1) (Inhabited.default))))) z2)))) ++ z0)) (bytD ((unB (bytD ((unB (bytD ((unB (bytD ((Prod.snd a_1) ++ (wsA (Itm.ws (List.getD l (Prod.fst a_1) (Inhabited.default))) Bool.true)))) ++ [(32 : UInt8), (123 : UInt8), (10 : UInt8)]))) ++ (fmtL (unI (itemsD (Itm.ks (List.getD l (Prod.fst a_1) (Inhabited.default))))) z2)))) ++ z0))) ∧ (((List.length ((unB (bytD ((unB (bytD ((unB (bytD ((Prod.snd a_1) ++ (wsA (Itm.ws (List.getD l (Prod.fst a_1) (Inhabited.default))) Bool.true)))) ++ [(32 : UInt8), (123 : UInt8), (10 : UInt8)]))) ++ (fmtL (unI (itemsD (Itm.ks (List.getD l (Prod.fst a_1) (Inhabited.default))))) z2)))) ++ z0)) + (2 : Nat)) ≤ z14))) ∧ (True ∧ (True ∧ (∃ (y : Nat), (∃ (kp : (List KE)), (((z9 - y) < (z9 - x)) ∧ ((y ≤ z9) ∧ (viewAllK (2 : Nat) kp [z21, z13, z15, z19, (Prod.mk (12 : Nat) (D.v (Value.int IntKind.i64 (IntKind.wrap IntKind.i64 ((((Prod.fst a_1) : Nat) : Int) + (1 : Int))))))] [(Option.some (Blk.mk (44 : Nat) [z3, (D.sl (7 : Nat) (0 : Nat) (List.length ((unB (bytD ((unB (bytD ((unB (bytD ((unB (bytD ((Prod.snd a_1) ++ (wsA (Itm.ws (List.getD l (Prod.fst a_1) (Inhabited.default))) Bool.true)))) ++ [(32 : UInt8), (123 : UInt8), (10 : UInt8)]))) ++ (fmtL (unI (itemsD (Itm.ks (List.getD l (Prod.fst a_1) (Inhabited.default))))) z2)))) ++ z0))) ++ [(125 : UInt8), (10 : UInt8)])) z12)] Bool.true)), (Option.none), (Option.none), (Option.some (Blk.mk (36 : Nat) [(D.v (Value.int IntKind.i64 (Itm.line (List.getD l (Prod.fst a_1) (Inhabited.default))))), (D.ro (List.length (Itm.ws (List.getD l (Prod.fst a_1) (Inhabited.default)))) (wordsD (Itm.ws (List.getD l (Prod.fst a_1) (Inhabited.default))))), (D.v (Value.bool (Itm.bl (List.getD l (Prod.fst a_1) (Inhabited.default))))), (D.ro (List.length (Itm.ks (List.getD l (Prod.fst a_1) (Inhabited.default)))) (itemsD (Itm.ks (List.getD l (Prod.fst a_1) (Inhabited.default)))))] Bool.true)), (Option.none), (Option.none), (Option.none), (Option.some (Blk.mk (5 : Nat) (bytD ((unB (bytD ((unB (bytD ((unB (bytD ((unB (bytD ((Prod.snd a_1) ++ (wsA (Itm.ws (List.getD l (Prod.fst a_1) (Inhabited.default))) Bool.true)))) ++ [(32 : UInt8), (123 : UInt8), (10 : UInt8)]))) ++ (fmtL (unI (itemsD (Itm.ks (List.getD l (Prod.fst a_1) (Inhabited.default))))) z2)))) ++ z0))) ++ [(125 : UInt8), (10 : UInt8)])) Bool.false))] [z21, z13, z15, z19, (Prod.mk (12 : Nat) (D.v (Value.int IntKind.i64 ((y : Nat) : Int))))] [(Option.some (Blk.mk (44 : TypeId) [(adrAt a y), (D.sl (2 : Nat) (0 : Nat) (List.length (s ++ (fmtL (List.take y l) z0))) z12)] Bool.true)), (Option.none), (Option.some (Blk.mk (5 : TypeId) (bytD (s ++ (fmtL (List.take y l) z0))) Bool.false))])))))))))))))))))))))))))))))))))))))))) (∃ (r : Unit), (∃ (kp : (List KE)), (True ∧ ((z29 = z29) ∧ (viewAllK (2 : Nat) kp z39 [(Option.some (Blk.mk (44 : Nat) [(adrAt a x), (D.sl (2 : Nat) (0 : Nat) z35 z12)] Bool.true)), (Option.none), (Option.some (Blk.mk (5 : Nat) (bytD z8) Bool.false))] (Prod.fst (Prod.snd ((fun (x_1 : Unit) => z6) r))) (Prod.snd (Prod.snd ((fun (x_1 : Unit) => z6) r))))))))))) (by kernel_rfl) ?_
  simp only [true_and, and_true, and_self, IsInt_lit, IsBool_lit, IsStr_lit, IsSl_lit, cellN_lit, cellL_lit, Bool.not_eq_true', Bool.not_eq_false', Bool.not_true, Bool.not_false, Int.reduceLE, Int.reduceLT, Int.reduceNeg, Nat.le_refl, Int.le_refl, Nat.reduceLT, Nat.reduceLeDiff, Nat.reduceEqDiff, D.v.injEq, D.tup.injEq, D.agg.injEq, D.ro.injEq, List.cons.injEq, Value.int.injEq, Value.bool.injEq, pcond_true, pcond_false, NamelessL, Nameless, Nat.reduceMul, Nat.reduceAdd, Nat.zero_add, Int.toNat_natCast, BOk_lit, unB_bytD] at *
  obtain ⟨ih, hh, ⟨ho, hlm⟩, ⟨ha, hla⟩, hsz⟩ := hpre
  simp only [maxLen] at hlm
  refine pcond_intro (fun h1 => ?_) (fun h1 => ?_)
  · simp only [decide_eq_true_eq] at h1
    have hxl : x < l.length := by omega
    obtain ⟨g0, g1, g2, g3⟩ := itemsD_get l x hxl
    have hlen := itemsD_length l
    have ox := okL_get l x ho hxl
    obtain ⟨o1, o2, o3, o4⟩ := okI_parts ox
    have hlt := hL_get l x hxl
    have hi : IntKind.i64.wrap ((x : Int) + 1) = ((x + 1 : Nat) : Int) := by rw [wrap_i64_of (by omega) (by omega)]; omega
    simp only [g0, g1, g2, g3, cellInt_lit, cellN_lit, cellL_lit, cellBool_lit, IsInt_lit, IsSl_lit, IsBool_lit, WOk_lit, IOk_lit, unW_wordsD, unI_itemsD, mk_eta, hi]
    have st := fmt_step hxl ind.data.toList
    have le := fmt_le l (x + 1) ind.data.toList
    have fe := fmtI_eq (l.getD x default) ind.data.toList
    have lst := congrArg List.length st
    have lfe := congrArg List.length fe
    simp only [List.length_append] at lst lfe
    have hind := size_list ind
    refine ⟨by omega, ⟨by omega, trivial, trivial, trivial, trivial⟩, ⟨⟨by decide, adrAt_ok ha x⟩, ?_⟩, ⟨x, s ++ fmtL (l.take x) ind.data.toList ++ ind.data.toList⟩, ⟨hxl, Nat.zero_le _, ?_⟩, ⟨⟨?_, ⟨?_, bytD_nl _⟩, rfl, wordsD_nl _, itemsD_nl _⟩, rfl, ⟨rfl, rfl⟩, rfl⟩, fun _ _ => ?_⟩
    · rw [List.length_append]; omega
    · simp only [List.length_append]; omega
    · simp [wsA]
    · simp [wsA]
    · simp only
      obtain ⟨p, hp⟩ : ∃ p, p = s ++ fmtL (l.take x) ind.data.toList ++ ind.data.toList := ⟨_, rfl⟩
      rw [← hp]
      have hpl := congrArg List.length hp
      simp only [List.length_append] at hpl
      generalize l.getD x default = u at *
      rw [hi]
      refine pcond_intro (fun h2 => ?_) (fun h2 => ?_)
      · have h2 : u.bl = false := by simpa using h2
        rw [h2] at fe lfe
        simp only [cond_false, List.length_cons, List.length_nil] at fe lfe
        have e1 : p ++ wsA u.ws true ++ [59, 10] = s ++ fmtL (l.take (x + 1)) ind.data.toList := by rw [st, hp, fe]; simp
        refine ⟨⟨⟨by decide, .inr rfl⟩, ?_⟩, x + 1, [.nam 0, .dead, .old 4], by omega, by omega, ?_⟩
        · simp only [List.length_append]; omega
        · rw [e1, show adrAt a (x + 1) = .ptr 0 0 from rfl]
          refine of_eq (B := letI z0 := (s ++ (fmtL (List.take (x + (1 : Nat)) l) (Array.toList (ByteArray.data ind)))); letI z1 := (D.ptr (0 : Nat) (0 : Nat)); letI z2 := (D.sl (2 : Nat) (0 : Nat) (List.length z0) (Cap.toEnd (1 : Nat))); letI z3 := (D.v (Value.int IntKind.i64 (((List.length l) : Nat) : Int))); letI z4 := (D.v (Value.int IntKind.i64 (((x + (1 : Nat)) : Nat) : Int))); letI z5 := (Option.some (Blk.mk (5 : Nat) (bytD z0) Bool.false)); letI z6 := (D.ro (List.length l) (itemsD l)); letI z7 := ([] : List (Option Blk)); letI z8 := (D.v (Value.string ind)); letI z9 := Bool.true = Bool.true; letI z10 := (True ∧ (z1 = z1)); (z9 ∧ ((((((44 : Nat) = (44 : Nat)) ∧ z9) ∧ (z10 ∧ ((True ∧ (z2 = z2)) ∧ (([] : List D) = ([] : List D))))) ∧ (((z5 = z5) ∧ (NamelessL (bytD z0))) ∧ (z7 = z7))) ∧ (z10 ∧ ((True ∧ (z8 = z8)) ∧ ((True ∧ (z6 = z6)) ∧ ((True ∧ (z3 = z3)) ∧ ((True ∧ (z4 = z4)) ∧ True)))))))) (by kernel_rfl) ?_
          simp [bytD_nl]
      · have h2 : u.bl = true := by simpa using h2
        rw [h2] at fe lfe
        simp only [cond_true, List.length_append, List.length_cons, List.length_nil] at fe lfe
        have e1 : p ++ wsA u.ws true ++ [32, 123, 10] ++ fmtL u.ks (ind.data.toList ++ [32, 32]) ++ ind.data.toList ++ [125, 10] = s ++ fmtL (l.take (x + 1)) ind.data.toList := by rw [st, hp, fe]; simp
        refine ⟨⟨⟨by decide, .inr rfl⟩, ?_⟩, by omega, ⟨by decide, ?_, ⟨o2, o4⟩, by omega⟩, ⟨⟨by decide, .inr rfl⟩, ?_⟩, ⟨⟨by decide, .inr rfl⟩, ?_⟩, x + 1, [.nam 0, .dead, .old 7], by omega, by omega, ?_⟩
        · simp only [List.length_append]; omega
        · simp only [List.length_append, List.length_cons, List.length_nil]; omega
        · simp only [List.length_append, List.length_cons, List.length_nil]; omega
        · simp only [List.length_append, List.length_cons, List.length_nil]; omega
        · rw [e1, show adrAt a (x + 1) = .ptr 0 0 from rfl]
          refine of_eq (B := letI z0 := (s ++ (fmtL (List.take (x + (1 : Nat)) l) (Array.toList (ByteArray.data ind)))); letI z1 := (D.ptr (0 : Nat) (0 : Nat)); letI z2 := (D.sl (2 : Nat) (0 : Nat) (List.length z0) (Cap.toEnd (1 : Nat))); letI z3 := (D.v (Value.int IntKind.i64 (((List.length l) : Nat) : Int))); letI z4 := (D.v (Value.int IntKind.i64 (((x + (1 : Nat)) : Nat) : Int))); letI z5 := (Option.some (Blk.mk (5 : Nat) (bytD z0) Bool.false)); letI z6 := (D.ro (List.length l) (itemsD l)); letI z7 := ([] : List (Option Blk)); letI z8 := (D.v (Value.string ind)); letI z9 := Bool.true = Bool.true; letI z10 := (True ∧ (z1 = z1)); (z9 ∧ ((((((44 : Nat) = (44 : Nat)) ∧ z9) ∧ (z10 ∧ ((True ∧ (z2 = z2)) ∧ (([] : List D) = ([] : List D))))) ∧ (((z5 = z5) ∧ (NamelessL (bytD z0))) ∧ (z7 = z7))) ∧ (z10 ∧ ((True ∧ (z8 = z8)) ∧ ((True ∧ (z6 = z6)) ∧ ((True ∧ (z3 = z3)) ∧ ((True ∧ (z4 = z4)) ∧ True)))))))) (by kernel_rfl) ?_
          simp [bytD_nl]
  · simp only [decide_eq_false_iff_not] at h1
    have e : l.take x = l := List.take_of_length_le (by omega)
    have ea : adrAt a x = .ptr 0 0 := by
      cases x with
      | zero =>
        have : l = [] := List.eq_nil_of_length_eq_zero (by omega)
        rcases hla with h | h
        · exact absurd this h
        · exact h
      | succ n => rfl
    rw [e, ea]
    refine ⟨(), [.nam 0, .dead, .old 2], ?_⟩
    refine of_eq (B := letI z0 := (s ++ (fmtL l (Array.toList (ByteArray.data ind)))); letI z1 := (D.sl (2 : Nat) (0 : Nat) (List.length z0) (Cap.toEnd (1 : Nat))); letI z2 := (Option.some (Blk.mk (5 : Nat) (bytD z0) Bool.false)); letI z3 := (D.ptr (0 : Nat) (0 : Nat)); letI z4 := ([] : List (Option Blk)); letI z5 := Bool.true = Bool.true; (z5 ∧ ((((((44 : Nat) = (44 : Nat)) ∧ z5) ∧ ((True ∧ (z3 = z3)) ∧ ((True ∧ (z1 = z1)) ∧ (([] : List D) = ([] : List D))))) ∧ (((z2 = z2) ∧ (NamelessL (bytD z0))) ∧ (z4 = z4))) ∧ True))) (by kernel_rfl) ?_
    simp [bytD_nl]
theorem write_call (l : List Itm) (ind : ByteArray) (s : List UInt8) (a : D) (h : Nat) (hpre : WriteIH h ∧ hL l ≤ h ∧ (okL l ∧ l.length ≤ maxLen) ∧ (AdrOk 0 a ∧ (l ≠ [] ∨ a = .ptr 0 0)) ∧ s.length + (fmtL l ind.data.toList).length ≤ 140737488355328) : CallJ Try.prog 20 [.ptr 0 0, .ro l.length (itemsD l), .v (.string ind)] ([some ⟨44, [a, .sl 1 0 s.length (.toEnd 1)], true⟩, some ⟨5, bytD s, false⟩]) (.tup []) ([some ⟨44, [.ptr 0 0, .sl 2 0 (s ++ fmtL l ind.data.toList).length (.toEnd 1)], true⟩, none, some ⟨5, bytD (s ++ fmtL l ind.data.toList), false⟩]) := by
  refine callJ_of_vck (k := 2) (call := noCalls) (lp := fun k => bif Nat.beq k 1 then some (lp_writeOut l ind s a h) else none) (N := 10) T_ok mixed noCalls_ok Try.func20 rfl (by decide) (by kernel_rfl) (by kernel_rfl) rfl (of_eq (B := LRuleK 2 Try.prog Try.f20.ntmps (loopAt ((Try.f20.body).getD .skip) 1) (lp_writeOut l ind s a h) ∧ True ∧ True) (by kernel_rfl) ⟨writeOut_rule l ind s a h hpre, ⟨trivial, trivial⟩⟩) ?_
  obtain ⟨ih, hh, ⟨ho, hlm⟩, ⟨ha, hla⟩, hsz⟩ := hpre
  rcases ha with rfl | rfl
  · refine of_eq (B := letI z0 := (Array.toList (ByteArray.data ind)); letI z8 := (s ++ (fmtL l z0)); letI z5 := (Cap.toEnd (1 : Nat)); letI z1 := (D.sl (2 : Nat) (0 : Nat) (List.length z8) z5); letI z2 := (D.ptr (0 : Nat) (0 : Nat)); letI z4 := List.length l; letI z3 := (D.v (Value.int IntKind.i64 ((z4 : Nat) : Int))); letI z6 := (D.v (Value.int IntKind.i64 (0 : Int))); letI z7 := (D.v (Value.pointer (Option.none))); letI z9 := (s ++ (fmtL ([] : List Itm) z0)); letI z10 := ([] : List (Option Blk)); letI z11 := (D.v (Value.string ind)); letI z12 := Bool.true = Bool.true; letI z13 := (D.tup ([] : List D)); letI z14 := (D.ro z4 (itemsD l)); (True ∧ (True ∧ (True ∧ (((0 : Nat) ≤ z4) ∧ ((z12 ∧ ((((((44 : Nat) = (44 : Nat)) ∧ z12) ∧ ((True ∧ (z7 = (adrAt z7 (0 : Nat)))) ∧ ((True ∧ ((D.sl (2 : Nat) (0 : Nat) (List.length s) z5) = (D.sl (2 : Nat) (0 : Nat) (List.length z9) z5))) ∧ (([] : List D) = ([] : List D))))) ∧ ((((Option.some (Blk.mk (5 : Nat) (bytD z9) Bool.false)) = (Option.some (Blk.mk (5 : Nat) (bytD s) Bool.false))) ∧ (NamelessL (bytD s))) ∧ (z10 = z10))) ∧ ((True ∧ (z2 = z2)) ∧ ((True ∧ (z11 = z11)) ∧ ((True ∧ (z14 = z14)) ∧ ((True ∧ (z3 = z3)) ∧ ((True ∧ (z6 = z6)) ∧ True))))))) ∧ (Unit → (True → (True ∧ (∃ (kp : (List KE)), (viewFin (2 : Nat) kp [(Option.some (Blk.mk (44 : Nat) [z2, z1] Bool.true)), (Option.none), (Option.some (Blk.mk (5 : Nat) (bytD z8) Bool.false))] z13 z13 [(Option.some (Blk.mk (44 : TypeId) [z2, z1] Bool.true)), (Option.none), (Option.some (Blk.mk (5 : TypeId) (bytD z8) Bool.false))]))))))))))) (by kernel_rfl) ?_
    simp only [true_and, and_true, and_self, IsInt_lit, IsBool_lit, IsStr_lit, IsSl_lit, cellN_lit, cellL_lit, Bool.not_eq_true', Bool.not_eq_false', Bool.not_true, Bool.not_false, Int.reduceLE, Int.reduceLT, Int.reduceNeg, Nat.le_refl, Int.le_refl, Nat.reduceLT, Nat.reduceLeDiff, Nat.reduceEqDiff, D.v.injEq, D.tup.injEq, D.agg.injEq, D.ro.injEq, List.cons.injEq, Value.int.injEq, Value.bool.injEq, pcond_true, pcond_false, NamelessL, Nameless, Nat.reduceMul, Nat.reduceAdd, Nat.zero_add, Int.toNat_natCast, adrAt, fmtL, List.append_nil]
    refine ⟨Nat.zero_le _, bytD_nl _, fun _ _ => ⟨[.nam 0, .dead, .old 2], ?_⟩⟩
    refine of_eq (B := letI z0 := (s ++ (fmtL l (Array.toList (ByteArray.data ind)))); letI z1 := (D.sl (2 : Nat) (0 : Nat) (List.length z0) (Cap.toEnd (1 : Nat))); letI z2 := (Option.some (Blk.mk (5 : Nat) (bytD z0) Bool.false)); letI z3 := (D.ptr (0 : Nat) (0 : Nat)); letI z4 := ([] : List (Option Blk)); letI z5 := Bool.true = Bool.true; letI z6 := (D.tup ([] : List D)); (z5 ∧ ((((((44 : Nat) = (44 : Nat)) ∧ z5) ∧ ((True ∧ (z3 = z3)) ∧ ((True ∧ (z1 = z1)) ∧ (([] : List D) = ([] : List D))))) ∧ (((z2 = z2) ∧ (NamelessL (bytD z0))) ∧ (z4 = z4))) ∧ (True ∧ (z6 = z6))))) (by kernel_rfl) ?_
    simp [bytD_nl]
  · refine of_eq (B := letI z0 := (Array.toList (ByteArray.data ind)); letI z1 := (D.ptr (0 : Nat) (0 : Nat)); letI z7 := (s ++ (fmtL l z0)); letI z5 := (Cap.toEnd (1 : Nat)); letI z2 := (D.sl (2 : Nat) (0 : Nat) (List.length z7) z5); letI z4 := List.length l; letI z3 := (D.v (Value.int IntKind.i64 ((z4 : Nat) : Int))); letI z6 := (D.v (Value.int IntKind.i64 (0 : Int))); letI z8 := (s ++ (fmtL ([] : List Itm) z0)); letI z9 := ([] : List (Option Blk)); letI z10 := (D.v (Value.string ind)); letI z11 := Bool.true = Bool.true; letI z12 := (D.tup ([] : List D)); letI z13 := (D.ro z4 (itemsD l)); (True ∧ (True ∧ (True ∧ (((0 : Nat) ≤ z4) ∧ ((z11 ∧ ((((((44 : Nat) = (44 : Nat)) ∧ z11) ∧ ((True ∧ (z1 = (adrAt z1 (0 : Nat)))) ∧ ((True ∧ ((D.sl (2 : Nat) (0 : Nat) (List.length s) z5) = (D.sl (2 : Nat) (0 : Nat) (List.length z8) z5))) ∧ (([] : List D) = ([] : List D))))) ∧ ((((Option.some (Blk.mk (5 : Nat) (bytD z8) Bool.false)) = (Option.some (Blk.mk (5 : Nat) (bytD s) Bool.false))) ∧ (NamelessL (bytD s))) ∧ (z9 = z9))) ∧ ((True ∧ (z1 = z1)) ∧ ((True ∧ (z10 = z10)) ∧ ((True ∧ (z13 = z13)) ∧ ((True ∧ (z3 = z3)) ∧ ((True ∧ (z6 = z6)) ∧ True))))))) ∧ (Unit → (True → (True ∧ (∃ (kp : (List KE)), (viewFin (2 : Nat) kp [(Option.some (Blk.mk (44 : Nat) [z1, z2] Bool.true)), (Option.none), (Option.some (Blk.mk (5 : Nat) (bytD z7) Bool.false))] z12 z12 [(Option.some (Blk.mk (44 : TypeId) [z1, z2] Bool.true)), (Option.none), (Option.some (Blk.mk (5 : TypeId) (bytD z7) Bool.false))]))))))))))) (by kernel_rfl) ?_
    simp only [true_and, and_true, and_self, IsInt_lit, IsBool_lit, IsStr_lit, IsSl_lit, cellN_lit, cellL_lit, Bool.not_eq_true', Bool.not_eq_false', Bool.not_true, Bool.not_false, Int.reduceLE, Int.reduceLT, Int.reduceNeg, Nat.le_refl, Int.le_refl, Nat.reduceLT, Nat.reduceLeDiff, Nat.reduceEqDiff, D.v.injEq, D.tup.injEq, D.agg.injEq, D.ro.injEq, List.cons.injEq, Value.int.injEq, Value.bool.injEq, pcond_true, pcond_false, NamelessL, Nameless, Nat.reduceMul, Nat.reduceAdd, Nat.zero_add, Int.toNat_natCast, adrAt, fmtL, List.append_nil]
    refine ⟨Nat.zero_le _, bytD_nl _, fun _ _ => ⟨[.nam 0, .dead, .old 2], ?_⟩⟩
    refine of_eq (B := letI z0 := (s ++ (fmtL l (Array.toList (ByteArray.data ind)))); letI z1 := (D.sl (2 : Nat) (0 : Nat) (List.length z0) (Cap.toEnd (1 : Nat))); letI z2 := (Option.some (Blk.mk (5 : Nat) (bytD z0) Bool.false)); letI z3 := (D.ptr (0 : Nat) (0 : Nat)); letI z4 := ([] : List (Option Blk)); letI z5 := Bool.true = Bool.true; letI z6 := (D.tup ([] : List D)); (z5 ∧ ((((((44 : Nat) = (44 : Nat)) ∧ z5) ∧ ((True ∧ (z3 = z3)) ∧ ((True ∧ (z1 = z1)) ∧ (([] : List D) = ([] : List D))))) ∧ (((z2 = z2) ∧ (NamelessL (bytD z0))) ∧ (z4 = z4))) ∧ (True ∧ (z6 = z6))))) (by kernel_rfl) ?_
    simp [bytD_nl]
theorem write_all : ∀ h, WriteIH h := by
  intro h
  induction h with
  | zero => intro l ind s a hl; omega
  | succ h ih => intro l ind s a h1 h2 h3 h4 h5; exact write_call l ind s a h ⟨ih, by omega, h2, ⟨h3, h4⟩, h5⟩
theorem write_none (H : Heap) (b : Nat) (ind : ByteArray) : CallJ Try.prog 20 [.ptr b 0, .ro 0 [], .v (.string ind)] H (.tup []) H := by
  refine callJ_same (call := noCalls) (lp := fun _ => none) (N := 3) T_ok mixed noCalls_ok Try.func20 rfl (by decide) (by kernel_rfl) (by kernel_rfl) (LpAll.none _) ?_
  refine of_eq (B := letI z0 := (D.tup ([] : List D)); (True ∧ (True ∧ (True ∧ (True ∧ (True ∧ ((z0 = z0) ∧ (H = H)))))))) (by kernel_rfl) ?_
  simp
def entc_writeN : EntC := fun ds H => match ds with
  | [.ptr b 0, .ro 0 [], .v (.string ind)] => some (.tup [], H, True)
  | _ => none
theorem entc_writeN_ok : EntCOk Try.prog 20 entc_writeN := by
  intro ds H d H' p hd hc; unfold entc_writeN at hd; split at hd
  · injection hd with hd
    simp only [Prod.mk.injEq] at hd
    obtain ⟨rfl, rfl, rfl⟩ := hd
    exact write_none H _ _
  · cases hd
theorem write_new (l : List Itm) (ind : ByteArray) (h1 : okL l ∧ l.length ≤ maxLen) (h2 : l ≠ []) (h3 : (fmtL l ind.data.toList).length ≤ 140737488355328) :
    CallJ Try.prog 20 [.ptr 0 0, .ro l.length (itemsD l), .v (.string ind)] [some ⟨44, [.v (.pointer none), .v (.slice none 0 0)], true⟩] (.tup [])
      [some ⟨44, [.ptr 0 0, .sl 2 0 (fmtL l ind.data.toList).length (.toEnd 1)], true⟩, none, some ⟨5, bytD (fmtL l ind.data.toList), false⟩] := by
  have key := write_all (hL l + 1) l ind [] (.v (.pointer none)) (Nat.lt_succ_self _) h1 (.inl rfl) (.inl h2) (by simpa using h3)
  simp only [List.nil_append, List.length_nil] at key
  refine CallJ.viewK (keep := [.nam 0, .new]) key rfl ?_ ?_
  · exact ⟨⟨⟨rfl, rfl⟩, ⟨trivial, rfl⟩, trivial, rfl⟩, rfl, rfl⟩
  · rfl
def entc_write0 : EntC := fun ds H => match ds with
  | [.ptr 0 0, .ro k ys, .v (.string ind)] => match H with
    | [some ⟨ty, [.v (.pointer none), .v (.slice none 0 0)], true⟩] => some (.tup [], [some ⟨ty, [.ptr 0 0, .sl 2 0 (fmtL (unI ys) ind.data.toList).length (.toEnd 1)], true⟩, none, some ⟨5, bytD (fmtL (unI ys) ind.data.toList), false⟩],
        (ty = 44 ∧ IOk k ys) ∧ unI ys ≠ [] ∧ (fmtL (unI ys) ind.data.toList).length ≤ 140737488355328)
    | _ => none
  | _ => none
theorem entc_write0_ok : EntCOk Try.prog 20 entc_write0 := by
  intro ds H d H' p hd hc; unfold entc_write0 at hd; split at hd
  · rename_i k ys ind
    split at hd
    · injection hd with hd
      simp only [Prod.mk.injEq] at hd
      obtain ⟨rfl, rfl, rfl⟩ := hd
      obtain ⟨⟨rfl, ⟨h1, h2⟩, h3, h4⟩, h5, h6⟩ := hc
      generalize unI ys = l at *
      subst h1; subst h2
      exact write_new l ind ⟨h4, h3⟩ h5 h6
    · cases hd
  · cases hd
theorem fmt_pos {l : List Itm} (h : l ≠ []) (ind : List UInt8) : 0 < (fmtL l ind).length := by
  cases l with
  | nil => exact absurd rfl h
  | cons x r =>
    rw [fmtL, fmtI_eq]
    cases x.bl <;> simp only [cond_true, cond_false, List.length_append, List.length_cons, List.length_nil] <;> omega
def fmtB (l : List Itm) : List UInt8 := bif decide (chkE l = 0) then fmtL l [] else []
theorem hFormat0_pure  : PureJ Try.prog 10 [.ro 0 []] (.v (.string ⟨#[]⟩)) := by
  refine pureJ_of_vcx (call := (addPure 8 ent_hCheck (addCall 20 (entc_writeN) (addCall 21 (entc_str) noCalls)))) (lp := fun _ => none) (N := 10) T_ok mixed (addPure_ok ent_hCheck_ok (addCall_ok (entc_writeN_ok) (addCall_ok (entc_str_ok) noCalls_ok))) Try.func10 rfl (by decide) (by kernel_rfl) (by kernel_rfl) (LpAll.none _) (by first | exact ⟨trivial, trivial⟩ | trivial | simp [NamelessL, Nameless]) (by first | exact ⟨trivial, trivial⟩ | trivial | simp [NamelessL, Nameless]) ?_
  refine of_eq (B := letI z0 := (D.v (Value.string (ByteArray.mk (Array.mk ([] : List UInt8))))); (True ∧ (True ∧ ((IOk (0 : Nat) ([] : List D)) ∧ (True ∧ (True ∧ (True ∧ (True ∧ (((44 : Nat) = (44 : Nat)) ∧ (True ∧ (True ∧ (True ∧ (z0 = z0))))))))))))) (by kernel_rfl) ?_
  simp only [true_and, and_true, and_self, IsInt_lit, IsBool_lit, IsStr_lit, IsSl_lit, cellN_lit, cellL_lit, Bool.not_eq_true', Bool.not_eq_false', Bool.not_true, Bool.not_false, Int.reduceLE, Int.reduceLT, Int.reduceNeg, Nat.le_refl, Int.le_refl, Nat.reduceLT, Nat.reduceLeDiff, Nat.reduceEqDiff, D.v.injEq, D.tup.injEq, D.agg.injEq, D.ro.injEq, List.cons.injEq, Value.int.injEq, Value.bool.injEq, pcond_true, pcond_false, NamelessL, Nameless, Nat.reduceMul, Nat.reduceAdd, Nat.zero_add, Int.toNat_natCast]
  have h : unI [] = [] := by simp [unI]
  unfold IOk; rw [h]
  simp [itemsD, okL]
theorem hFormat1_pure (l : List Itm) (hpre : (okL l ∧ l.length ≤ maxLen) ∧ l ≠ [] ∧ (chkE l = 0 → (fmtL l []).length ≤ 140737488355328)) : PureJ Try.prog 10 [.ro l.length (itemsD l)] (.v (.string ⟨(fmtB l).toArray⟩)) := by
  refine pureJ_of_vcx (call := (addPure 8 ent_hCheck (addCall 20 (entc_write0) (addCall 21 (entc_str) noCalls)))) (lp := fun _ => none) (N := 10) T_ok mixed (addPure_ok ent_hCheck_ok (addCall_ok (entc_write0_ok) (addCall_ok (entc_str_ok) noCalls_ok))) Try.func10 rfl (by decide) (by kernel_rfl) (by kernel_rfl) (LpAll.none _) (by first | exact ⟨itemsD_nl l, trivial⟩ | trivial | simp [NamelessL, Nameless]) (by first | exact ⟨itemsD_nl l, trivial⟩ | trivial | simp [NamelessL, Nameless]) ?_
  refine of_eq (B := letI z3 := (unI (itemsD l)); letI z0 := (fmtL z3 ([] : List UInt8)); letI z1 := (D.v (Value.string (ByteArray.mk (Array.mk (fmtB l))))); letI z2 := (IOk (List.length l) (itemsD l)); letI z4 := List.length z0; letI z5 := ((44 : Nat) = (44 : Nat)); (True ∧ (True ∧ (z2 ∧ (True ∧ (pcond ((chkE z3) != (0 : Int)) (True ∧ (True ∧ (True ∧ ((D.v (Value.string (ByteArray.mk (Array.mk ([] : List UInt8))))) = z1)))) (True ∧ (True ∧ (((z5 ∧ z2) ∧ ((z3 ≠ ([] : List Itm)) ∧ (z4 ≤ (140737488355328 : Nat)))) ∧ (((z5 ∧ (((5 : Nat) = (5 : Nat)) ∧ ((0 : Nat) ≠ (2 : Nat)))) ∧ ((BOk z4 (bytD z0)) ∧ ((0 : Nat) < z4))) ∧ (True ∧ (True ∧ (True ∧ ((D.v (Value.string (ByteArray.mk (Array.mk (unB (bytD z0)))))) = z1)))))))))))))) (by kernel_rfl) ?_
  simp only [true_and, and_true, and_self, IsInt_lit, IsBool_lit, IsStr_lit, IsSl_lit, cellN_lit, cellL_lit, Bool.not_eq_true', Bool.not_eq_false', Bool.not_true, Bool.not_false, Int.reduceLE, Int.reduceLT, Int.reduceNeg, Nat.le_refl, Int.le_refl, Nat.reduceLT, Nat.reduceLeDiff, Nat.reduceEqDiff, D.v.injEq, D.tup.injEq, D.agg.injEq, D.ro.injEq, List.cons.injEq, Value.int.injEq, Value.bool.injEq, pcond_true, pcond_false, NamelessL, Nameless, Nat.reduceMul, Nat.reduceAdd, Nat.zero_add, Int.toNat_natCast, IOk_lit, unI_itemsD, BOk_lit, unB_bytD]
  obtain ⟨⟨ho, hlm⟩, hne, hsz⟩ := hpre
  unfold fmtB
  refine ⟨⟨hlm, ho⟩, pcond_intro (fun h1 => ?_) (fun h1 => ?_)⟩
  · rw [bne_iff_ne] at h1
    rw [decide_eq_false h1]; rfl
  · rw [bne_eq_false_iff_eq] at h1
    rw [decide_eq_true h1]
    exact ⟨⟨⟨hlm, ho⟩, hne, hsz h1⟩, ⟨by decide, fmt_pos hne []⟩, rfl⟩
def ent_hFormat : Ent := fun ds => match ds with
  | [.ro n ys] => some (.v (.string ⟨(fmtB (unI ys)).toArray⟩), IOk n ys ∧ (chkE (unI ys) = 0 → (fmtL (unI ys) []).length ≤ 140737488355328))
  | _ => none
theorem ent_hFormat_ok : EntOk Try.prog 10 ent_hFormat := by
  intro ds d c hd hc; unfold ent_hFormat at hd; split at hd
  · obtain ⟨rfl, rfl⟩ := pair_inj hd
    obtain ⟨⟨⟨h1, h2⟩, h3, h4⟩, h5⟩ := hc
    rename_i n ys
    generalize unI ys = l at *
    subst h1; subst h2
    by_cases hl : l = []
    · subst hl
      exact hFormat0_pure
    · exact hFormat1_pure l ⟨⟨h4, h3⟩, hl, h5⟩
  · cases hd
end Go.Proofs.Ytahiigfpikohgaa
end
