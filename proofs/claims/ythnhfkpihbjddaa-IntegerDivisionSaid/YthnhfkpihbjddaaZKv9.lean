import Derived.Test.YthnhfkpihbjddaaZKv8
section
namespace Go.Proofs.Ythnhfkpihbjddaa
open Go.VD
set_option linter.unusedVariables false
set_option linter.unusedSimpArgs false
set_option maxRecDepth 100000
def plusM (xs ys : List Nat) : Nat := max xs.length ys.length
def plusN (xs ys : List Nat) : Nat := plusM xs ys + (if (nv xs + nv ys) / 4294967296 ^ plusM xs ys = 0 then 0 else 1)
def plusL (xs ys : List Nat) : List Nat := dgn (plusN xs ys) (nv xs + nv ys)
def d_app (n : Nat) : D := .sl 0 0 n (.toEnd 1)
def d_apb (o : List Nat) : Heap := [some ⟨41, u32s o, false⟩]
structure PlusJ (xs ys : List Nat) (i c : Nat) : Prop where
  le : i ≤ plusM xs ys + 1
  hc : c ≤ 1
  eq : c + nv (xs.drop i) + nv (ys.drop i) = (nv xs + nv ys) / 4294967296 ^ i
  last : i = plusM xs ys + 1 → (nv xs + nv ys) / 4294967296 ^ plusM xs ys ≠ 0
theorem getD_ge {xs : List Nat} {i : Nat} (h : ¬ i < xs.length) : xs.getD i 0 = 0 := by
  simp [List.getD_eq_getElem?_getD, List.getElem?_eq_none (show xs.length ≤ i by omega)]
theorem plus_lt {xs ys : List Nat} (hx : Dig xs) (hy : Dig ys) : nv xs + nv ys < 4294967296 ^ (plusM xs ys + 1) := by
  have h1 := Nat.lt_of_lt_of_le (nv_lt hx) (Nat.pow_le_pow_right (by decide) (show xs.length ≤ plusM xs ys from Nat.le_max_left _ _))
  have h2 := Nat.lt_of_lt_of_le (nv_lt hy) (Nat.pow_le_pow_right (by decide) (show ys.length ≤ plusM xs ys from Nat.le_max_right _ _))
  rw [Nat.pow_succ]
  generalize 4294967296 ^ plusM xs ys = P at *
  omega
theorem plus_step {xs ys : List Nat} (hx : Dig xs) (hy : Dig ys) {i c : Nat} (h : PlusJ xs ys i c) (hc : i < xs.length ∨ i < ys.length ∨ 0 < c) :
    i ≤ plusM xs ys ∧ PlusJ xs ys (i + 1) ((c + xs.getD i 0 + ys.getD i 0) / 4294967296) ∧ dgn (i + 1) (nv xs + nv ys) = dgn i (nv xs + nv ys) ++ [(c + xs.getD i 0 + ys.getD i 0) % 4294967296] := by
  obtain ⟨h1, h2, h3, h4⟩ := h
  have mx : xs.length ≤ plusM xs ys := Nat.le_max_left _ _
  have my : ys.length ≤ plusM xs ys := Nat.le_max_right _ _
  have e1 := nv_drop_succ xs i
  have e2 := nv_drop_succ ys i
  have d1 := hx.get i
  have d2 := hy.get i
  have hle : i ≤ plusM xs ys := by
    refine Classical.byContradiction fun hn => ?_
    have hi : i = plusM xs ys + 1 := by omega
    have hS := plus_lt hx hy
    have z : (nv xs + nv ys) / 4294967296 ^ i = 0 := by rw [hi]; exact Nat.div_eq_of_lt hS
    omega
  have hd := div_pow_succ (nv xs + nv ys) i
  refine ⟨hle, ⟨by omega, by omega, ?_, fun hl => ?_⟩, ?_⟩
  · rw [hd, ← h3, e1, e2]
    generalize nv (xs.drop (i + 1)) = a
    generalize nv (ys.drop (i + 1)) = b
    generalize xs.getD i 0 = x at *
    generalize ys.getD i 0 = y at *
    omega
  · have : i = plusM xs ys := by omega
    subst this
    omega
  · rw [dgn_succ, ← h3, e1, e2]
    congr 2
    generalize nv (xs.drop (i + 1)) = a
    generalize nv (ys.drop (i + 1)) = b
    generalize xs.getD i 0 = x at *
    generalize ys.getD i 0 = y at *
    omega
theorem plus_exit {xs ys : List Nat} {i : Nat} (h : PlusJ xs ys i 0) (hx : ¬ i < xs.length) (hy : ¬ i < ys.length) : i = plusN xs ys := by
  obtain ⟨h1, h2, h3, h4⟩ := h
  rw [nv_drop_ge (by omega), nv_drop_ge (by omega)] at h3
  have hm : plusM xs ys ≤ i := by unfold plusM; omega
  unfold plusN
  by_cases he : i = plusM xs ys
  · rw [if_pos (by rw [← he]; exact h3.symm), he, Nat.add_zero]
  · have he : i = plusM xs ys + 1 := by omega
    rw [if_neg (h4 he)]; exact he
theorem dgn_len (k v : Nat) : (dgn k v).length = k := dgn_length k v
def lp_plusLoop (xs ys : List Nat) : LoopO := loopRule (α := Nat × Nat) (β := Unit) [none] (fun s => PlusJ xs ys s.1 s.2) (fun s => [(0, .ro xs.length (u32s xs)), (1, .ro ys.length (u32s ys)), (5, d_app s.1), (6, .v (.int .u64 (s.2 : Int))), (7, .v (.int .i64 (s.1 : Int)))]) (fun s => d_apb (dgn s.1 (nv xs + nv ys))) ((0, 0)) (fun _ => True) (fun _ => (.exit 0, [(5, d_app (plusN xs ys))], d_apb (plusL xs ys)))
theorem plusLoop_rule (xs ys : List Nat) (hpre : xs.length ≤ 400000 ∧ ys.length ≤ 400000 ∧ Dig xs ∧ Dig ys) : LRuleP Try.prog Try.f57.ntmps (loopAt ((Try.f57.body).getD .skip) 4) (lp_plusLoop xs ys) := by
  refine lrule_of (α := Nat × Nat) (β := Unit) (call := noCalls) (lp := fun _ => none) (N := 10) T_ok mixed noCalls_ok (fun s => plusM xs ys + 2 - s.1) (by kernel_rfl) (LpAllP.none _) ?_
  intro x hJ
  refine of_eq (B := letI z52 := ((Prod.fst x) * (1 : Nat)); letI z21 := ((nv xs) + (nv ys)); letI z43 := (u32s (dgn (Prod.fst x) z21)); letI z44 := ((Prod.fst x) + (1 : Nat)); letI z51 := (9223372036854775807 : Nat); letI z0 := (((1 : Nat) ≤ (1 : Nat)) ∧ (((22 : Nat) = (22 : Nat)) ∧ (((1 : Nat) = (1 : Nat)) ∧ (((41 : Nat) = (41 : Nat)) ∧ ((z52 ≤ (List.length z43)) ∧ (((0 : Nat) < (1 : Nat)) ∧ ((z44 ≤ z51) ∧ ((z44 * (4 : Nat)) ≤ (140737488355328 : Nat))))))))); letI z29 := (((Prod.snd x) : Nat) : Int); letI z3 := (((Prod.fst x) : Nat) : Int); letI z30 := ((Int.toNat z3) * (1 : Nat)); letI z46 := (List.getD (u32s xs) z30 (Inhabited.default)); letI z1 := (IntKind.wrap IntKind.u64 (z29 + (IntKind.wrap IntKind.u64 (cellInt z46)))); letI z47 := (List.getD (u32s ys) z30 (Inhabited.default)); letI z2 := (IntKind.wrap IntKind.u64 (cellInt z47)); letI z4 := (Prod.mk (0 : Nat) (D.ro (List.length xs) (u32s xs))); letI z5 := (Prod.mk (1 : Nat) (D.ro (List.length ys) (u32s ys))); letI z53 := (Cap.toEnd (1 : Nat)); letI z6 := (Prod.mk (5 : Nat) (D.sl (2 : Nat) (0 : Nat) z44 z53)); letI z7 := (Prod.mk (7 : Nat) (D.v (Value.int IntKind.i64 (IntKind.wrap IntKind.i64 (z3 + (1 : Int)))))); letI z8 := (List.take z52 z43); letI z9 := (((1 : Nat) ≤ (16777216 : Nat)) ∧ ((1 : Nat) ≤ z51)); letI z10 := ((z30 < (List.length (u32s ys))) ∧ (IsInt IntKind.u32 z47)); letI z49 := (IntKind.wrap IntKind.u64 (z29 + z2)); letI z11 := (D.v (Value.int IntKind.u32 (IntKind.wrap IntKind.u32 z49))); letI z12 := ((plusM xs ys) + (2 : Nat)); letI z50 := (IntKind.wrap IntKind.u64 (z1 + z2)); letI z13 := (D.v (Value.int IntKind.u32 (IntKind.wrap IntKind.u32 z50))); letI z14 := (D.v (Value.int IntKind.u32 (IntKind.wrap IntKind.u32 z29))); letI z15 := (((List.length ys) : Nat) : Int); letI z16 := ((z30 < (List.length (u32s xs))) ∧ (IsInt IntKind.u32 z46)); letI z17 := (D.v (Value.int IntKind.u32 (IntKind.wrap IntKind.u32 z1))); letI z45 := (4294967296 : Int); letI z18 := (Prod.mk (6 : Nat) (D.v (Value.int IntKind.u64 (Int.fdiv z49 z45)))); letI z19 := ((0 : Int) ≤ (32 : Int)); letI z20 := (Prod.mk (6 : Nat) (D.v (Value.int IntKind.u64 (Int.fdiv z50 z45)))); letI z22 := (Prod.mk (6 : Nat) (D.v (Value.int IntKind.u64 (Int.fdiv z29 z45)))); letI z23 := (List (Option Nat)); letI z24 := (z12 - (Prod.fst x)); letI z25 := (((List.length xs) : Nat) : Int); letI z26 := (((0 : Int) ≤ z3) ∧ (z3 < z15)); letI z27 := (Prod.mk (6 : Nat) (D.v (Value.int IntKind.u64 (Int.fdiv z1 z45)))); letI z28 := (Decidable.decide (z3 < z15)); letI z31 := Prod Nat Nat; letI z32 := (Option.some (Blk.mk (41 : Nat) (z8 ++ [z13]) Bool.false)); letI z33 := (Option.some (Blk.mk (41 : Nat) (z8 ++ [z17]) Bool.false)); letI z34 := (Option.some (Blk.mk (41 : Nat) (z8 ++ [z11]) Bool.false)); letI z35 := (Option.some (Blk.mk (41 : Nat) (z8 ++ [z14]) Bool.false)); letI z48 := (Exit.exit (0 : Nat)); letI z36 := (Prod.mk z48 (Prod.mk [(Prod.mk (5 : Nat) (d_app (plusN xs ys)))] (d_apb (plusL xs ys)))); letI z37 := (Option.some (Blk.mk (41 : Nat) [z13] Bool.true)); letI z38 := (Option.some (Blk.mk (41 : Nat) [z17] Bool.true)); letI z39 := (Option.some (Blk.mk (41 : Nat) [z11] Bool.true)); letI z40 := (Option.some (Blk.mk (41 : Nat) [z14] Bool.true)); letI z41 := (Decidable.decide (z3 < z25)); letI z42 := (((0 : Int) ≤ z3) ∧ (z3 < z25)); (True ∧ (True ∧ (True ∧ (True ∧ (True ∧ (pcond z41 (True ∧ (True ∧ (True ∧ (True ∧ (True ∧ (True ∧ (True ∧ (pcond z41 (True ∧ (True ∧ (True ∧ (z42 ∧ (z16 ∧ (True ∧ (True ∧ (True ∧ (True ∧ (True ∧ (True ∧ (True ∧ (pcond z28 (True ∧ (True ∧ (True ∧ (z26 ∧ (z10 ∧ (True ∧ (True ∧ (True ∧ (True ∧ (True ∧ (True ∧ (z9 ∧ (z0 ∧ (True ∧ (True ∧ (z19 ∧ (True ∧ (True ∧ (True ∧ (True ∧ (∃ (y : z31), (∃ (kp : z23), (((z12 - (Prod.fst y)) < z24) ∧ ((PlusJ xs ys (Prod.fst y) (Prod.snd y)) ∧ (viewAll kp [z4, z5, z6, z20, z7] [(Option.none), z37, z32] [z4, z5, (Prod.mk (5 : Nat) (d_app (Prod.fst y))), (Prod.mk (6 : Nat) (D.v (Value.int IntKind.u64 (((Prod.snd y) : Nat) : Int)))), (Prod.mk (7 : Nat) (D.v (Value.int IntKind.i64 (((Prod.fst y) : Nat) : Int))))] (d_apb (dgn (Prod.fst y) z21))))))))))))))))))))))))))) (True ∧ (True ∧ (True ∧ (z9 ∧ (z0 ∧ (True ∧ (True ∧ (z19 ∧ (True ∧ (True ∧ (True ∧ (True ∧ (∃ (y : z31), (∃ (kp : z23), (((z12 - (Prod.fst y)) < z24) ∧ ((PlusJ xs ys (Prod.fst y) (Prod.snd y)) ∧ (viewAll kp [z4, z5, z6, z27, z7] [(Option.none), z38, z33] [z4, z5, (Prod.mk (5 : Nat) (d_app (Prod.fst y))), (Prod.mk (6 : Nat) (D.v (Value.int IntKind.u64 (((Prod.snd y) : Nat) : Int)))), (Prod.mk (7 : Nat) (D.v (Value.int IntKind.i64 (((Prod.fst y) : Nat) : Int))))] (d_apb (dgn (Prod.fst y) z21)))))))))))))))))))))))))))))))) (True ∧ (True ∧ (True ∧ (True ∧ (pcond z28 (True ∧ (True ∧ (True ∧ (z26 ∧ (z10 ∧ (True ∧ (True ∧ (True ∧ (True ∧ (True ∧ (True ∧ (z9 ∧ (z0 ∧ (True ∧ (True ∧ (z19 ∧ (True ∧ (True ∧ (True ∧ (True ∧ (∃ (y : z31), (∃ (kp : z23), (((z12 - (Prod.fst y)) < z24) ∧ ((PlusJ xs ys (Prod.fst y) (Prod.snd y)) ∧ (viewAll kp [z4, z5, z6, z18, z7] [(Option.none), z39, z34] [z4, z5, (Prod.mk (5 : Nat) (d_app (Prod.fst y))), (Prod.mk (6 : Nat) (D.v (Value.int IntKind.u64 (((Prod.snd y) : Nat) : Int)))), (Prod.mk (7 : Nat) (D.v (Value.int IntKind.i64 (((Prod.fst y) : Nat) : Int))))] (d_apb (dgn (Prod.fst y) z21))))))))))))))))))))))))))) (True ∧ (True ∧ (True ∧ (z9 ∧ (z0 ∧ (True ∧ (True ∧ (z19 ∧ (True ∧ (True ∧ (True ∧ (True ∧ (∃ (y : z31), (∃ (kp : z23), (((z12 - (Prod.fst y)) < z24) ∧ ((PlusJ xs ys (Prod.fst y) (Prod.snd y)) ∧ (viewAll kp [z4, z5, z6, z22, z7] [(Option.none), z40, z35] [z4, z5, (Prod.mk (5 : Nat) (d_app (Prod.fst y))), (Prod.mk (6 : Nat) (D.v (Value.int IntKind.u64 (((Prod.snd y) : Nat) : Int)))), (Prod.mk (7 : Nat) (D.v (Value.int IntKind.i64 (((Prod.fst y) : Nat) : Int))))] (d_apb (dgn (Prod.fst y) z21)))))))))))))))))))))))))))))))) (True ∧ (True ∧ (True ∧ (True ∧ (True ∧ (True ∧ (pcond z28 (True ∧ (True ∧ (True ∧ (True ∧ (True ∧ (pcond z41 (True ∧ (True ∧ (True ∧ (z42 ∧ (z16 ∧ (True ∧ (True ∧ (True ∧ (True ∧ (True ∧ (True ∧ (True ∧ (pcond z28 (True ∧ (True ∧ (True ∧ (z26 ∧ (z10 ∧ (True ∧ (True ∧ (True ∧ (True ∧ (True ∧ (True ∧ (z9 ∧ (z0 ∧ (True ∧ (True ∧ (z19 ∧ (True ∧ (True ∧ (True ∧ (True ∧ (∃ (y : z31), (∃ (kp : z23), (((z12 - (Prod.fst y)) < z24) ∧ ((PlusJ xs ys (Prod.fst y) (Prod.snd y)) ∧ (viewAll kp [z4, z5, z6, z20, z7] [(Option.none), z37, z32] [z4, z5, (Prod.mk (5 : Nat) (d_app (Prod.fst y))), (Prod.mk (6 : Nat) (D.v (Value.int IntKind.u64 (((Prod.snd y) : Nat) : Int)))), (Prod.mk (7 : Nat) (D.v (Value.int IntKind.i64 (((Prod.fst y) : Nat) : Int))))] (d_apb (dgn (Prod.fst y) z21))))))))))))))))))))))))))) (True ∧ (True ∧ (True ∧ (z9 ∧ (z0 ∧ (True ∧ (True ∧ (z19 ∧ (True ∧ (True ∧ (True ∧ (True ∧ (∃ (y : z31), (∃ (kp : z23), (((z12 - (Prod.fst y)) < z24) ∧ ((PlusJ xs ys (Prod.fst y) (Prod.snd y)) ∧ (viewAll kp [z4, z5, z6, z27, z7] [(Option.none), z38, z33] [z4, z5, (Prod.mk (5 : Nat) (d_app (Prod.fst y))), (Prod.mk (6 : Nat) (D.v (Value.int IntKind.u64 (((Prod.snd y) : Nat) : Int)))), (Prod.mk (7 : Nat) (D.v (Value.int IntKind.i64 (((Prod.fst y) : Nat) : Int))))] (d_apb (dgn (Prod.fst y) z21)))))))))))))))))))))))))))))))) (True ∧ (True ∧ (True ∧ (True ∧ (pcond z28 (True ∧ (True ∧ (True ∧ (z26 ∧ (z10 ∧ (True ∧ (True ∧ (True ∧ (True ∧ (True ∧ (True ∧ (z9 ∧ (z0 ∧ (True ∧ (True ∧ (z19 ∧ (True ∧ (True ∧ (True ∧ (True ∧ (∃ (y : z31), (∃ (kp : z23), (((z12 - (Prod.fst y)) < z24) ∧ ((PlusJ xs ys (Prod.fst y) (Prod.snd y)) ∧ (viewAll kp [z4, z5, z6, z18, z7] [(Option.none), z39, z34] [z4, z5, (Prod.mk (5 : Nat) (d_app (Prod.fst y))), (Prod.mk (6 : Nat) (D.v (Value.int IntKind.u64 (((Prod.snd y) : Nat) : Int)))), (Prod.mk (7 : Nat) (D.v (Value.int IntKind.i64 (((Prod.fst y) : Nat) : Int))))] (d_apb (dgn (Prod.fst y) z21))))))))))))))))))))))))))) (True ∧ (True ∧ (True ∧ (z9 ∧ (z0 ∧ (True ∧ (True ∧ (z19 ∧ (True ∧ (True ∧ (True ∧ (True ∧ (∃ (y : z31), (∃ (kp : z23), (((z12 - (Prod.fst y)) < z24) ∧ ((PlusJ xs ys (Prod.fst y) (Prod.snd y)) ∧ (viewAll kp [z4, z5, z6, z22, z7] [(Option.none), z40, z35] [z4, z5, (Prod.mk (5 : Nat) (d_app (Prod.fst y))), (Prod.mk (6 : Nat) (D.v (Value.int IntKind.u64 (((Prod.snd y) : Nat) : Int)))), (Prod.mk (7 : Nat) (D.v (Value.int IntKind.i64 (((Prod.fst y) : Nat) : Int))))] (d_apb (dgn (Prod.fst y) z21)))))))))))))))))))))))))))))) (True ∧ (True ∧ (True ∧ (pcond (Decidable.decide ((0 : Int) < z29)) (True ∧ (True ∧ (True ∧ (True ∧ (pcond z41 (True ∧ (True ∧ (True ∧ (z42 ∧ (z16 ∧ (True ∧ (True ∧ (True ∧ (True ∧ (True ∧ (True ∧ (True ∧ (pcond z28 (True ∧ (True ∧ (True ∧ (z26 ∧ (z10 ∧ (True ∧ (True ∧ (True ∧ (True ∧ (True ∧ (True ∧ (z9 ∧ (z0 ∧ (True ∧ (True ∧ (z19 ∧ (True ∧ (True ∧ (True ∧ (True ∧ (∃ (y : z31), (∃ (kp : z23), (((z12 - (Prod.fst y)) < z24) ∧ ((PlusJ xs ys (Prod.fst y) (Prod.snd y)) ∧ (viewAll kp [z4, z5, z6, z20, z7] [(Option.none), z37, z32] [z4, z5, (Prod.mk (5 : Nat) (d_app (Prod.fst y))), (Prod.mk (6 : Nat) (D.v (Value.int IntKind.u64 (((Prod.snd y) : Nat) : Int)))), (Prod.mk (7 : Nat) (D.v (Value.int IntKind.i64 (((Prod.fst y) : Nat) : Int))))] (d_apb (dgn (Prod.fst y) z21))))))))))))))))))))))))))) (True ∧ (True ∧ (True ∧ (z9 ∧ (z0 ∧ (True ∧ (True ∧ (z19 ∧ (True ∧ (True ∧ (True ∧ (True ∧ (∃ (y : z31), (∃ (kp : z23), (((z12 - (Prod.fst y)) < z24) ∧ ((PlusJ xs ys (Prod.fst y) (Prod.snd y)) ∧ (viewAll kp [z4, z5, z6, z27, z7] [(Option.none), z38, z33] [z4, z5, (Prod.mk (5 : Nat) (d_app (Prod.fst y))), (Prod.mk (6 : Nat) (D.v (Value.int IntKind.u64 (((Prod.snd y) : Nat) : Int)))), (Prod.mk (7 : Nat) (D.v (Value.int IntKind.i64 (((Prod.fst y) : Nat) : Int))))] (d_apb (dgn (Prod.fst y) z21)))))))))))))))))))))))))))))))) (True ∧ (True ∧ (True ∧ (True ∧ (pcond z28 (True ∧ (True ∧ (True ∧ (z26 ∧ (z10 ∧ (True ∧ (True ∧ (True ∧ (True ∧ (True ∧ (True ∧ (z9 ∧ (z0 ∧ (True ∧ (True ∧ (z19 ∧ (True ∧ (True ∧ (True ∧ (True ∧ (∃ (y : z31), (∃ (kp : z23), (((z12 - (Prod.fst y)) < z24) ∧ ((PlusJ xs ys (Prod.fst y) (Prod.snd y)) ∧ (viewAll kp [z4, z5, z6, z18, z7] [(Option.none), z39, z34] [z4, z5, (Prod.mk (5 : Nat) (d_app (Prod.fst y))), (Prod.mk (6 : Nat) (D.v (Value.int IntKind.u64 (((Prod.snd y) : Nat) : Int)))), (Prod.mk (7 : Nat) (D.v (Value.int IntKind.i64 (((Prod.fst y) : Nat) : Int))))] (d_apb (dgn (Prod.fst y) z21))))))))))))))))))))))))))) (True ∧ (True ∧ (True ∧ (z9 ∧ (z0 ∧ (True ∧ (True ∧ (z19 ∧ (True ∧ (True ∧ (True ∧ (True ∧ (∃ (y : z31), (∃ (kp : z23), (((z12 - (Prod.fst y)) < z24) ∧ ((PlusJ xs ys (Prod.fst y) (Prod.snd y)) ∧ (viewAll kp [z4, z5, z6, z22, z7] [(Option.none), z40, z35] [z4, z5, (Prod.mk (5 : Nat) (d_app (Prod.fst y))), (Prod.mk (6 : Nat) (D.v (Value.int IntKind.u64 (((Prod.snd y) : Nat) : Int)))), (Prod.mk (7 : Nat) (D.v (Value.int IntKind.i64 (((Prod.fst y) : Nat) : Int))))] (d_apb (dgn (Prod.fst y) z21))))))))))))))))))))))))))))) (∃ (r : Unit), (∃ (kp : z23), (True ∧ ((z48 = z48) ∧ (viewAll kp [(Prod.mk (5 : Nat) (D.sl (0 : Nat) (0 : Nat) (Prod.fst x) z53))] [(Option.some (Blk.mk (41 : Nat) z43 Bool.false))] (Prod.fst (Prod.snd ((fun (x_1 : Unit) => z36) r))) (Prod.snd (Prod.snd ((fun (x_1 : Unit) => z36) r)))))))))))))))))))))))))) (by kernel_rfl) ?_
  obtain ⟨hbx, hby, hdx, hdy⟩ := hpre
  obtain ⟨i, c⟩ := x
  simp only at hJ
  have hst := plus_step hdx hdy hJ
  have hc := hJ.hc
  have mx : plusM xs ys ≤ 400000 := by unfold plusM; omega
  have hx := hdx.get i
  have hy := hdy.get i
  have hi := hJ.le
  have hw : IntKind.i64.wrap ((i : Int) + 1) = ((i + 1 : Nat) : Int) := by rw [wrap_i64_of (by omega) (by omega)]; omega
  have fin : ∀ T : Nat, T = c + xs.getD i 0 + ys.getD i 0 → IntKind.u32.wrap (T : Int) = ((T % 4294967296 : Nat) : Int) ∧ (T : Int).fdiv 4294967296 = ((T / 4294967296 : Nat) : Int) := fun T _ =>
    ⟨by rw [wrap_u32]; omega, by rw [Int.fdiv_eq_ediv_of_nonneg _ (by omega)]; omega⟩
  obtain ⟨f1, f2⟩ := fin _ rfl
  have ht : (u32s (dgn i (nv xs + nv ys))).take i = u32s (dgn i (nv xs + nv ys)) := by
    rw [u32s_take]; congr 1; exact List.take_of_length_le (by rw [dgn_length]; exact Nat.le_refl _)
  have one : ∀ q : Nat, [D.v (Value.int IntKind.u32 (q : Int))] = u32s [q] := fun q => rfl
  simp only [true_and, and_true, and_self, IsInt_lit, IsBool_lit, IsStr_lit, Bool.not_eq_true', Bool.not_eq_false', Bool.not_true, Bool.not_false, Int.reduceLE, Int.reduceLT, Int.reduceNeg, Nat.le_refl, Int.le_refl, Nat.reduceLT, Nat.reduceLeDiff, Nat.reduceEqDiff, D.v.injEq, D.tup.injEq, D.agg.injEq, D.ro.injEq, List.cons.injEq, Value.int.injEq, Value.bool.injEq, pcond_true, pcond_false, NamelessL, Nameless, Nat.reduceMul, Nat.reduceAdd, Nat.zero_add, Int.toNat_natCast, Nat.mul_one, u32s_cell, u32s_length, dgn_length, Int.ofNat_lt, ht, hw]
  by_cases cx : i < xs.length
  · simp only [cx, decide_true, pcond_true, u32s_isInt _ _ cx, and_true]
    obtain ⟨k1, k2, k3⟩ := hst (.inl cx)
    by_cases cy : i < ys.length
    · simp only [cy, decide_true, pcond_true, u32s_isInt _ _ cy, and_true]
      have e : IntKind.u64.wrap (IntKind.u64.wrap ((c : Int) + IntKind.u64.wrap (xs.getD i 0 : Int)) + IntKind.u64.wrap (ys.getD i 0 : Int)) = ((c + xs.getD i 0 + ys.getD i 0 : Nat) : Int) := by simp only [wrap_u64]; omega
      simp only [e, f1, f2, one, u32s_append, ← k3, true_and, and_true, Nat.le_refl]
      refine ⟨by omega, by omega, by omega, (i + 1, (c + xs.getD i 0 + ys.getD i 0) / 4294967296), [some 2], by simp only; omega, k2, ?_⟩
      refine of_eq (B := letI z0 := (D.v (Value.int IntKind.u64 (((((c + (List.getD xs i (0 : Nat))) + (List.getD ys i (0 : Nat))) / (4294967296 : Nat)) : Nat) : Int))); letI z7 := (i + (1 : Nat)); letI z1 := (u32s (dgn z7 ((nv xs) + (nv ys)))); letI z2 := (D.sl (0 : Nat) (0 : Nat) z7 (Cap.toEnd (1 : Nat))); letI z3 := (D.v (Value.int IntKind.i64 ((z7 : Nat) : Int))); letI z4 := (Option.some (Blk.mk (41 : Nat) z1 Bool.false)); letI z5 := (D.ro (List.length xs) (u32s xs)); letI z6 := (D.ro (List.length ys) (u32s ys)); letI z8 := ([] : List (Option Blk)); ((Bool.true = Bool.true) ∧ ((((z4 = z4) ∧ (NamelessL z1)) ∧ (z8 = z8)) ∧ ((True ∧ (z5 = z5)) ∧ ((True ∧ (z6 = z6)) ∧ ((True ∧ (z2 = z2)) ∧ ((True ∧ (z0 = z0)) ∧ ((True ∧ (z3 = z3)) ∧ True)))))))) (by kernel_rfl) ?_
      simp [u32s_nameless]
    · have y0 := getD_ge cy
      simp only [cy, decide_false, pcond_false]
      have e : IntKind.u64.wrap ((c : Int) + IntKind.u64.wrap (xs.getD i 0 : Int)) = ((c + xs.getD i 0 + ys.getD i 0 : Nat) : Int) := by simp only [wrap_u64]; omega
      simp only [e, f1, f2, one, u32s_append, ← k3, true_and, and_true, Nat.le_refl]
      refine ⟨by omega, by omega, (i + 1, (c + xs.getD i 0 + ys.getD i 0) / 4294967296), [some 2], by simp only; omega, k2, ?_⟩
      refine of_eq (B := letI z0 := (D.v (Value.int IntKind.u64 (((((c + (List.getD xs i (0 : Nat))) + (List.getD ys i (0 : Nat))) / (4294967296 : Nat)) : Nat) : Int))); letI z7 := (i + (1 : Nat)); letI z1 := (u32s (dgn z7 ((nv xs) + (nv ys)))); letI z2 := (D.sl (0 : Nat) (0 : Nat) z7 (Cap.toEnd (1 : Nat))); letI z3 := (D.v (Value.int IntKind.i64 ((z7 : Nat) : Int))); letI z4 := (Option.some (Blk.mk (41 : Nat) z1 Bool.false)); letI z5 := (D.ro (List.length xs) (u32s xs)); letI z6 := (D.ro (List.length ys) (u32s ys)); letI z8 := ([] : List (Option Blk)); ((Bool.true = Bool.true) ∧ ((((z4 = z4) ∧ (NamelessL z1)) ∧ (z8 = z8)) ∧ ((True ∧ (z5 = z5)) ∧ ((True ∧ (z6 = z6)) ∧ ((True ∧ (z2 = z2)) ∧ ((True ∧ (z0 = z0)) ∧ ((True ∧ (z3 = z3)) ∧ True)))))))) (by kernel_rfl) ?_
      simp [u32s_nameless]
  · have x0 := getD_ge cx
    simp only [cx, decide_false, pcond_false]
    by_cases cy : i < ys.length
    · simp only [cy, decide_true, pcond_true, u32s_isInt _ _ cy, and_true]
      obtain ⟨k1, k2, k3⟩ := hst (.inr (.inl cy))
      have e : IntKind.u64.wrap ((c : Int) + IntKind.u64.wrap (ys.getD i 0 : Int)) = ((c + xs.getD i 0 + ys.getD i 0 : Nat) : Int) := by simp only [wrap_u64]; omega
      simp only [e, f1, f2, one, u32s_append, ← k3, true_and, and_true, Nat.le_refl]
      refine ⟨by omega, by omega, (i + 1, (c + xs.getD i 0 + ys.getD i 0) / 4294967296), [some 2], by simp only; omega, k2, ?_⟩
      refine of_eq (B := letI z0 := (D.v (Value.int IntKind.u64 (((((c + (List.getD xs i (0 : Nat))) + (List.getD ys i (0 : Nat))) / (4294967296 : Nat)) : Nat) : Int))); letI z7 := (i + (1 : Nat)); letI z1 := (u32s (dgn z7 ((nv xs) + (nv ys)))); letI z2 := (D.sl (0 : Nat) (0 : Nat) z7 (Cap.toEnd (1 : Nat))); letI z3 := (D.v (Value.int IntKind.i64 ((z7 : Nat) : Int))); letI z4 := (Option.some (Blk.mk (41 : Nat) z1 Bool.false)); letI z5 := (D.ro (List.length xs) (u32s xs)); letI z6 := (D.ro (List.length ys) (u32s ys)); letI z8 := ([] : List (Option Blk)); ((Bool.true = Bool.true) ∧ ((((z4 = z4) ∧ (NamelessL z1)) ∧ (z8 = z8)) ∧ ((True ∧ (z5 = z5)) ∧ ((True ∧ (z6 = z6)) ∧ ((True ∧ (z2 = z2)) ∧ ((True ∧ (z0 = z0)) ∧ ((True ∧ (z3 = z3)) ∧ True)))))))) (by kernel_rfl) ?_
      simp [u32s_nameless]
    · have y0 := getD_ge cy
      simp only [cy, decide_false, pcond_false]
      refine pcond_intro (fun h => ?_) (fun h => ?_)
      · simp only [decide_eq_true_eq] at h
        obtain ⟨k1, k2, k3⟩ := hst (.inr (.inr (by omega)))
        have e : (c : Int) = ((c + xs.getD i 0 + ys.getD i 0 : Nat) : Int) := by omega
        rw [e]
        simp only [f1, f2, one, u32s_append, ← k3, true_and, and_true, Nat.le_refl]
        refine ⟨by omega, (i + 1, (c + xs.getD i 0 + ys.getD i 0) / 4294967296), [some 2], by simp only; omega, k2, ?_⟩
        refine of_eq (B := letI z0 := (D.v (Value.int IntKind.u64 (((((c + (List.getD xs i (0 : Nat))) + (List.getD ys i (0 : Nat))) / (4294967296 : Nat)) : Nat) : Int))); letI z7 := (i + (1 : Nat)); letI z1 := (u32s (dgn z7 ((nv xs) + (nv ys)))); letI z2 := (D.sl (0 : Nat) (0 : Nat) z7 (Cap.toEnd (1 : Nat))); letI z3 := (D.v (Value.int IntKind.i64 ((z7 : Nat) : Int))); letI z4 := (Option.some (Blk.mk (41 : Nat) z1 Bool.false)); letI z5 := (D.ro (List.length xs) (u32s xs)); letI z6 := (D.ro (List.length ys) (u32s ys)); letI z8 := ([] : List (Option Blk)); ((Bool.true = Bool.true) ∧ ((((z4 = z4) ∧ (NamelessL z1)) ∧ (z8 = z8)) ∧ ((True ∧ (z5 = z5)) ∧ ((True ∧ (z6 = z6)) ∧ ((True ∧ (z2 = z2)) ∧ ((True ∧ (z0 = z0)) ∧ ((True ∧ (z3 = z3)) ∧ True)))))))) (by kernel_rfl) ?_
        simp [u32s_nameless]
      · simp only [decide_eq_false_iff_not] at h
        have : c = 0 := by omega
        subst this
        have hn := plus_exit hJ cx cy
        subst hn
        refine ⟨(), [some 0], ?_⟩
        refine of_eq (B := letI z0 := (D.sl (0 : Nat) (0 : Nat) (plusN xs ys) (Cap.toEnd (1 : Nat))); letI z1 := (u32s (dgn (plusN xs ys) ((nv xs) + (nv ys)))); letI z2 := ([] : List (Option Blk)); ((Bool.true = Bool.true) ∧ (((((Option.some (Blk.mk (41 : Nat) (u32s (plusL xs ys)) Bool.false)) = (Option.some (Blk.mk (41 : Nat) z1 Bool.false))) ∧ (NamelessL z1)) ∧ (z2 = z2)) ∧ ((True ∧ (z0 = z0)) ∧ True)))) (by kernel_rfl) ?_
        simp [u32s_nameless, plusL]
theorem plus_pure (xs ys : List Nat) (hpre : xs.length ≤ 400000 ∧ ys.length ≤ 400000 ∧ Dig xs ∧ Dig ys) : PureJ Try.prog 57 [.ro xs.length (u32s xs), .ro ys.length (u32s ys)] (.ro (plusL xs ys).length (u32s (plusL xs ys))) := by
  refine pureJ_of_vcp (call := noCalls) (lp := fun k => bif Nat.beq k 4 then some (lp_plusLoop xs ys) else none) (N := 10) T_ok mixed noCalls_ok Try.func57 rfl (by decide) (by kernel_rfl) (by kernel_rfl) (of_eq (B := LRuleP Try.prog Try.f57.ntmps (loopAt ((Try.f57.body).getD .skip) 4) (lp_plusLoop xs ys) ∧ True) (by kernel_rfl) ⟨plusLoop_rule xs ys hpre, trivial⟩) (by first | trivial | (simp only [NamelessL, Nameless, and_self, and_true, true_and]; done) | (simp [NamelessL, Nameless, u32s_nameless, namelessL_ints]; done)) (by first | trivial | (simp only [NamelessL, Nameless, and_self, and_true, true_and]; done) | (simp [NamelessL, Nameless, u32s_nameless, namelessL_ints]; done)) ?_
  refine of_eq (B := letI z0 := (u32s (plusL xs ys)); letI z1 := (D.v (Value.int IntKind.u64 (0 : Int))); letI z2 := (D.v (Value.int IntKind.i64 (0 : Int))); letI z3 := (D.ro (List.length xs) (u32s xs)); letI z4 := (D.ro (List.length ys) (u32s ys)); letI z5 := ((plusN xs ys) * (1 : Nat)); letI z6 := ([] : List (Option Blk)); (True ∧ (True ∧ (True ∧ (True ∧ ((PlusJ xs ys (0 : Nat) (0 : Nat)) ∧ (((Bool.true = Bool.true) ∧ ((((u32s (dgn (0 : Nat) ((nv xs) + (nv ys)))) = ([] : List D)) ∧ (z6 = z6)) ∧ ((True ∧ (z3 = z3)) ∧ ((True ∧ (z4 = z4)) ∧ (True ∧ ((True ∧ (z1 = z1)) ∧ ((True ∧ (z2 = z2)) ∧ True))))))) ∧ (Unit → (True → (True ∧ (True ∧ (True ∧ (((NamelessL z0) ∧ (((0 : Nat) < (1 : Nat)) ∧ (((0 : Nat) + z5) ≤ (List.length z0)))) ∧ ((D.ro (plusN xs ys) (List.take z5 (List.drop (0 : Nat) z0))) = (D.ro (List.length (plusL xs ys)) z0))))))))))))))) (by kernel_rfl) ?_
  simp only [true_and, and_true, and_self, IsInt_lit, IsBool_lit, IsStr_lit, Bool.not_eq_true', Bool.not_eq_false', Bool.not_true, Bool.not_false, Int.reduceLE, Int.reduceLT, Int.reduceNeg, Nat.le_refl, Int.le_refl, Nat.reduceLT, Nat.reduceLeDiff, Nat.reduceEqDiff, D.v.injEq, D.tup.injEq, D.agg.injEq, D.ro.injEq, List.cons.injEq, Value.int.injEq, Value.bool.injEq, pcond_true, pcond_false, NamelessL, Nameless, Nat.reduceMul, Nat.reduceAdd, Nat.zero_add, Int.toNat_natCast, unu_u32s]
  have hl : (plusL xs ys).length = plusN xs ys := by unfold plusL; rw [dgn_length]
  refine ⟨⟨by omega, by omega, by simp, by omega⟩, rfl, fun _ _ => ⟨⟨u32s_nameless _, by rw [u32s_length, hl]; omega⟩, hl.symm, ?_⟩⟩
  rw [List.drop_zero, Nat.mul_one, u32s_take, ← hl, List.take_length]
def ent_plus : Ent := fun ds => match ds with
  | [.ro n_xs ys_xs, .ro n_ys ys_ys] => some (.ro (plusL (unu ys_xs) (unu ys_ys)).length (u32s (plusL (unu ys_xs) (unu ys_ys))), (ys_ys = u32s (unu ys_ys) ∧ n_ys = (unu ys_ys).length) ∧ (ys_xs = u32s (unu ys_xs) ∧ n_xs = (unu ys_xs).length) ∧ (unu ys_xs).length ≤ 400000 ∧ (unu ys_ys).length ≤ 400000 ∧ Dig (unu ys_xs) ∧ Dig (unu ys_ys))
  | _ => none
theorem ent_plus_ok : EntOk Try.prog 57 ent_plus := by
  intro ds d c h hc; unfold ent_plus at h; split at h
  · rename_i n_xs ys_xs n_ys ys_ys; obtain ⟨rfl, rfl⟩ := pair_inj h
    obtain ⟨⟨h1, h2⟩, hc⟩ := hc; subst h2; generalize (unu ys_ys) = ys at *; subst h1
    obtain ⟨⟨h1, h2⟩, hc⟩ := hc; subst h2; generalize (unu ys_xs) = xs at *; subst h1
    exact plus_pure xs ys hc
  · cases h
structure MinusJ (xs ys : List Nat) (i : Nat) (o : List Nat) (b : Nat) : Prop where
  le : i ≤ xs.length
  len : o.length = i
  dig : Dig o
  hb : b ≤ 1
  eq : nv o + nv (ys.take i) = nv (xs.take i) + b * 4294967296 ^ i
theorem take_ge (ys : List Nat) {i : Nat} (h : ¬ i < ys.length) : nv (ys.take (i + 1)) = nv (ys.take i) := by
  rw [List.take_of_length_le (by omega), List.take_of_length_le (by omega)]
theorem nv_take_succ' (ys : List Nat) (i : Nat) : nv (ys.take (i + 1)) = nv (ys.take i) + ys.getD i 0 * 4294967296 ^ i := by
  by_cases h : i < ys.length
  · exact nv_take_succ ys i h
  · rw [take_ge ys h, getD_ge h]; omega
theorem minus_step {xs ys : List Nat} (hx : Dig xs) (hy : Dig ys) {i b : Nat} {o : List Nat} (h : MinusJ xs ys i o b) (hc : i < xs.length) {d b' : Nat} (hd : d < 4294967296) (hb : b' ≤ 1)
    (he : d + b + ys.getD i 0 = xs.getD i 0 + b' * 4294967296) : MinusJ xs ys (i + 1) (o ++ [d]) b' := by
  obtain ⟨h1, h2, h3, h4, h5⟩ := h
  refine ⟨hc, by simp [h2], Dig.app.2 ⟨h3, Dig.cons.2 ⟨hd, Dig.nil⟩⟩, hb, ?_⟩
  rw [nv_take_succ' xs, nv_take_succ' ys, nv_append, h2, Nat.pow_succ]
  simp only [nv, Nat.mul_zero, Nat.add_zero]
  generalize nv (xs.take i) = a at *
  generalize nv (ys.take i) = a2 at *
  generalize xs.getD i 0 = x at *
  generalize ys.getD i 0 = y at *
  generalize 4294967296 ^ i = P at *
  have e : (d + b + y) * P = (x + b' * 4294967296) * P := by rw [he]
  grind
theorem sub_digit {x y b : Nat} (hx : x < 4294967296) (hy : y < 4294967296) (hb : b ≤ 1) (W : Int) (hW : W = ((x : Int) - b - y) % 18446744073709551616) :
    ∃ d b' : Nat, d < 4294967296 ∧ b' ≤ 1 ∧ IntKind.u32.wrap W = (d : Int) ∧ W.fdiv 9223372036854775808 = (b' : Int) ∧ d + b + y = x + b' * 4294967296 := by
  subst hW
  by_cases h : x < b + y
  · refine ⟨x + 4294967296 - b - y, 1, by omega, by omega, ?_, ?_, by omega⟩
    · rw [wrap_u32]; omega
    · rw [Int.fdiv_eq_ediv_of_nonneg _ (by omega)]; omega
  · refine ⟨x - b - y, 0, by omega, by omega, ?_, ?_, by omega⟩
    · rw [wrap_u32]; omega
    · rw [Int.fdiv_eq_ediv_of_nonneg _ (by omega)]; omega
def lp_minusLoop (xs ys : List Nat) : LoopO := loopRule (α := Nat × List Nat × Nat) (β := List Nat) [none] (fun s => MinusJ xs ys s.1 s.2.1 s.2.2) (fun s => [(0, .ro xs.length (u32s xs)), (1, .ro ys.length (u32s ys)), (5, d_app s.1), (6, .v (.int .u64 (s.2.2 : Int))), (7, .v (.int .i64 (s.1 : Int)))]) (fun s => d_apb s.2.1) ((0, [], 0)) (fun r => r.length = xs.length ∧ Dig r ∧ nv r = nv xs - nv ys) (fun r => (.exit 0, [(5, d_app xs.length)], d_apb r))
theorem minusLoop_rule (xs ys : List Nat) (hpre : (xs.length ≤ 400000 ∧ ys.length ≤ xs.length ∧ Dig xs ∧ Dig ys) ∧ nv ys ≤ nv xs) : LRuleP Try.prog Try.f58.ntmps (loopAt ((Try.f58.body).getD .skip) 4) (lp_minusLoop xs ys) := by
  refine lrule_of (α := Nat × List Nat × Nat) (β := List Nat) (call := noCalls) (lp := fun _ => none) (N := 10) T_ok mixed noCalls_ok (fun s => xs.length - s.1) (by kernel_rfl) (LpAllP.none _) ?_
  intro x hJ
  refine of_eq (B := letI z1 := (((Prod.fst x) : Nat) : Int); letI z6 := ((Int.toNat z1) * (1 : Nat)); letI z17 := (List.getD (u32s xs) z6 (Inhabited.default)); letI z0 := (IntKind.wrap IntKind.u64 ((IntKind.wrap IntKind.u64 (cellInt z17)) - (((Prod.snd (Prod.snd x)) : Nat) : Int))); letI z15 := ((Prod.fst x) * (1 : Nat)); letI z10 := (u32s (Prod.fst (Prod.snd x))); letI z16 := ((Prod.fst x) + (1 : Nat)); letI z24 := (9223372036854775807 : Nat); letI z2 := (((1 : Nat) ≤ (1 : Nat)) ∧ (((22 : Nat) = (22 : Nat)) ∧ (((1 : Nat) = (1 : Nat)) ∧ (((41 : Nat) = (41 : Nat)) ∧ ((z15 ≤ (List.length z10)) ∧ (((0 : Nat) < (1 : Nat)) ∧ ((z16 ≤ z24) ∧ ((z16 * (4 : Nat)) ≤ (140737488355328 : Nat))))))))); letI z18 := (List.getD (u32s ys) z6 (Inhabited.default)); letI z3 := (IntKind.wrap IntKind.u64 (z0 - (IntKind.wrap IntKind.u64 (cellInt z18)))); letI z4 := List.length xs; letI z5 := (Prod.mk (1 : Nat) (D.ro (List.length ys) (u32s ys))); letI z7 := (Prod.mk (0 : Nat) (D.ro z4 (u32s xs))); letI z26 := (Cap.toEnd (1 : Nat)); letI z8 := (Prod.mk (5 : Nat) (D.sl (2 : Nat) (0 : Nat) z16 z26)); letI z9 := (Prod.mk (7 : Nat) (D.v (Value.int IntKind.i64 (IntKind.wrap IntKind.i64 (z1 + (1 : Int)))))); letI z11 := (((1 : Nat) ≤ (16777216 : Nat)) ∧ ((1 : Nat) ≤ z24)); letI z12 := (D.v (Value.int IntKind.u32 (IntKind.wrap IntKind.u32 z3))); letI z13 := (D.v (Value.int IntKind.u32 (IntKind.wrap IntKind.u32 z0))); letI z14 := (Exit.exit (0 : Nat)); letI z19 := (List (Option Nat)); letI z20 := (((List.length ys) : Nat) : Int); letI z21 := (Prod Nat (Prod (List Nat) Nat)); letI z22 := (Prod.mk (5 : Nat) (d_app z4)); letI z23 := (9223372036854775808 : Int); letI z25 := ((0 : Int) ≤ (63 : Int)); letI z27 := (z4 - (Prod.fst x)); letI z28 := List.take z15 z10; (True ∧ (True ∧ (True ∧ (True ∧ (pcond (Decidable.decide (z1 < ((z4 : Nat) : Int))) (True ∧ (True ∧ ((((0 : Int) ≤ z1) ∧ (z1 < ((z4 : Nat) : Int))) ∧ (((z6 < (List.length (u32s xs))) ∧ (IsInt IntKind.u32 z17)) ∧ (True ∧ (True ∧ (True ∧ (True ∧ (True ∧ (True ∧ (True ∧ (True ∧ (pcond (Decidable.decide (z1 < z20)) (True ∧ (True ∧ (True ∧ ((((0 : Int) ≤ z1) ∧ (z1 < z20)) ∧ (((z6 < (List.length (u32s ys))) ∧ (IsInt IntKind.u32 z18)) ∧ (True ∧ (True ∧ (True ∧ (True ∧ (True ∧ (True ∧ (z11 ∧ (z2 ∧ (True ∧ (True ∧ (z25 ∧ (True ∧ (True ∧ (True ∧ (True ∧ (∃ (y : z21), (∃ (kp : z19), (((z4 - (Prod.fst y)) < z27) ∧ ((MinusJ xs ys (Prod.fst y) (Prod.fst (Prod.snd y)) (Prod.snd (Prod.snd y))) ∧ (viewAll kp [z7, z5, z8, (Prod.mk (6 : Nat) (D.v (Value.int IntKind.u64 (Int.fdiv z3 z23)))), z9] [(Option.none), (Option.some (Blk.mk (41 : Nat) [z12] Bool.true)), (Option.some (Blk.mk (41 : Nat) (z28 ++ [z12]) Bool.false))] [z7, z5, (Prod.mk (5 : Nat) (d_app (Prod.fst y))), (Prod.mk (6 : Nat) (D.v (Value.int IntKind.u64 (((Prod.snd (Prod.snd y)) : Nat) : Int)))), (Prod.mk (7 : Nat) (D.v (Value.int IntKind.i64 (((Prod.fst y) : Nat) : Int))))] (d_apb (Prod.fst (Prod.snd y)))))))))))))))))))))))))))) (True ∧ (True ∧ (True ∧ (z11 ∧ (z2 ∧ (True ∧ (True ∧ (z25 ∧ (True ∧ (True ∧ (True ∧ (True ∧ (∃ (y : z21), (∃ (kp : z19), (((z4 - (Prod.fst y)) < z27) ∧ ((MinusJ xs ys (Prod.fst y) (Prod.fst (Prod.snd y)) (Prod.snd (Prod.snd y))) ∧ (viewAll kp [z7, z5, z8, (Prod.mk (6 : Nat) (D.v (Value.int IntKind.u64 (Int.fdiv z0 z23)))), z9] [(Option.none), (Option.some (Blk.mk (41 : Nat) [z13] Bool.true)), (Option.some (Blk.mk (41 : Nat) (z28 ++ [z13]) Bool.false))] [z7, z5, (Prod.mk (5 : Nat) (d_app (Prod.fst y))), (Prod.mk (6 : Nat) (D.v (Value.int IntKind.u64 (((Prod.snd (Prod.snd y)) : Nat) : Int)))), (Prod.mk (7 : Nat) (D.v (Value.int IntKind.i64 (((Prod.fst y) : Nat) : Int))))] (d_apb (Prod.fst (Prod.snd y))))))))))))))))))))))))))))))))) (∃ (r : (List Nat)), (∃ (kp : z19), ((((List.length r) = z4) ∧ ((Dig r) ∧ ((nv r) = ((nv xs) - (nv ys))))) ∧ ((z14 = z14) ∧ (viewAll kp [(Prod.mk (5 : Nat) (D.sl (0 : Nat) (0 : Nat) (Prod.fst x) z26))] [(Option.some (Blk.mk (41 : Nat) z10 Bool.false))] (Prod.fst (Prod.snd ((fun (r_1 : (List Nat)) => (Prod.mk z14 (Prod.mk [z22] (d_apb r_1)))) r))) (Prod.snd (Prod.snd ((fun (r_1 : (List Nat)) => (Prod.mk z14 (Prod.mk [z22] (d_apb r_1)))) r)))))))))))))) (by kernel_rfl) ?_
  obtain ⟨⟨hbx, hby, hdx, hdy⟩, hge⟩ := hpre
  obtain ⟨i, o, b⟩ := x
  simp only at hJ
  have hst := fun d b' h1 h2 h3 => @minus_step xs ys hdx hdy i b o hJ h1 d b' h2 h3
  obtain ⟨h1, h2, h3, h4, h5⟩ := hJ
  have hx := hdx.get i
  have hy := hdy.get i
  have hw : i < xs.length → IntKind.i64.wrap ((i : Int) + 1) = ((i + 1 : Nat) : Int) := fun _ => by rw [wrap_i64_of (by omega) (by omega)]; omega
  have ht : (u32s o).take i = u32s o := by rw [u32s_take]; congr 1; exact List.take_of_length_le (by omega)
  have one : ∀ q : Nat, [D.v (Value.int IntKind.u32 (q : Int))] = u32s [q] := fun q => rfl
  simp only [true_and, and_true, and_self, IsInt_lit, IsBool_lit, IsStr_lit, Bool.not_eq_true', Bool.not_eq_false', Bool.not_true, Bool.not_false, Int.reduceLE, Int.reduceLT, Int.reduceNeg, Nat.le_refl, Int.le_refl, Nat.reduceLT, Nat.reduceLeDiff, Nat.reduceEqDiff, D.v.injEq, D.tup.injEq, D.agg.injEq, D.ro.injEq, List.cons.injEq, Value.int.injEq, Value.bool.injEq, pcond_true, pcond_false, NamelessL, Nameless, Nat.reduceMul, Nat.reduceAdd, Nat.zero_add, Int.toNat_natCast, Nat.mul_one, u32s_cell, u32s_length, Int.ofNat_lt, h2, ht]
  by_cases cx : i < xs.length
  · simp only [cx, decide_true, pcond_true, u32s_isInt _ _ cx, and_true, true_and, hw cx]
    by_cases cy : i < ys.length
    · simp only [cy, decide_true, pcond_true, u32s_isInt _ _ cy, and_true, true_and]
      obtain ⟨d, b', k1, k2, k3, k4, k5⟩ := sub_digit hx hy h4 (IntKind.u64.wrap (IntKind.u64.wrap (IntKind.u64.wrap (xs.getD i 0 : Int) - (b : Int)) - IntKind.u64.wrap (ys.getD i 0 : Int))) (by simp only [wrap_u64]; omega)
      simp only [k3, k4, one, u32s_append]
      refine ⟨by omega, by omega, by omega, (i + 1, o ++ [d], b'), [some 2], by simp only; omega, hst d b' cx k1 k2 k5, ?_⟩
      refine of_eq (B := letI z0 := (D.sl (0 : Nat) (0 : Nat) (i + (1 : Nat)) (Cap.toEnd (1 : Nat))); letI z1 := (Option.some (Blk.mk (41 : Nat) (u32s (o ++ [d])) Bool.false)); letI z2 := (D.v (Value.int IntKind.i64 (((i + (1 : Nat)) : Nat) : Int))); letI z3 := (D.v (Value.int IntKind.u64 ((b' : Nat) : Int))); letI z4 := (D.ro (List.length xs) (u32s xs)); letI z5 := (D.ro (List.length ys) (u32s ys)); letI z6 := ([] : List (Option Blk)); ((Bool.true = Bool.true) ∧ ((((z1 = z1) ∧ (NamelessL (u32s (o ++ [d])))) ∧ (z6 = z6)) ∧ ((True ∧ (z4 = z4)) ∧ ((True ∧ (z5 = z5)) ∧ ((True ∧ (z0 = z0)) ∧ ((True ∧ (z3 = z3)) ∧ ((True ∧ (z2 = z2)) ∧ True)))))))) (by kernel_rfl) ?_
      simp [u32s_nameless]
    · have y0 := getD_ge cy
      simp only [cy, decide_false, pcond_false]
      obtain ⟨d, b', k1, k2, k3, k4, k5⟩ := sub_digit hx hy h4 (IntKind.u64.wrap (IntKind.u64.wrap (xs.getD i 0 : Int) - (b : Int))) (by simp only [wrap_u64]; omega)
      simp only [k3, k4, one, u32s_append]
      refine ⟨by omega, by omega, (i + 1, o ++ [d], b'), [some 2], by simp only; omega, hst d b' cx k1 k2 k5, ?_⟩
      refine of_eq (B := letI z0 := (D.sl (0 : Nat) (0 : Nat) (i + (1 : Nat)) (Cap.toEnd (1 : Nat))); letI z1 := (Option.some (Blk.mk (41 : Nat) (u32s (o ++ [d])) Bool.false)); letI z2 := (D.v (Value.int IntKind.i64 (((i + (1 : Nat)) : Nat) : Int))); letI z3 := (D.v (Value.int IntKind.u64 ((b' : Nat) : Int))); letI z4 := (D.ro (List.length xs) (u32s xs)); letI z5 := (D.ro (List.length ys) (u32s ys)); letI z6 := ([] : List (Option Blk)); ((Bool.true = Bool.true) ∧ ((((z1 = z1) ∧ (NamelessL (u32s (o ++ [d])))) ∧ (z6 = z6)) ∧ ((True ∧ (z4 = z4)) ∧ ((True ∧ (z5 = z5)) ∧ ((True ∧ (z0 = z0)) ∧ ((True ∧ (z3 = z3)) ∧ ((True ∧ (z2 = z2)) ∧ True)))))))) (by kernel_rfl) ?_
      simp [u32s_nameless]
  · simp only [cx, decide_false, pcond_false]
    have hi : i = xs.length := by omega
    subst hi
    rw [List.take_of_length_le hby, List.take_length] at h5
    have hlt := nv_lt h3
    rw [h2] at hlt
    have hv : nv o = nv xs - nv ys := by
      rcases (show b = 0 ∨ b = 1 by omega) with hb | hb <;> subst hb <;> omega
    refine ⟨o, [some 0], ⟨h2, h3, hv⟩, ?_⟩
    refine of_eq (B := letI z0 := (D.sl (0 : Nat) (0 : Nat) (List.length xs) (Cap.toEnd (1 : Nat))); letI z1 := (Option.some (Blk.mk (41 : Nat) (u32s o) Bool.false)); letI z2 := ([] : List (Option Blk)); ((Bool.true = Bool.true) ∧ ((((z1 = z1) ∧ (NamelessL (u32s o))) ∧ (z2 = z2)) ∧ ((True ∧ (z0 = z0)) ∧ True)))) (by kernel_rfl) ?_
    simp [u32s_nameless]
theorem minus_pure (xs ys : List Nat) (hpre : (xs.length ≤ 400000 ∧ ys.length ≤ xs.length ∧ Dig xs ∧ Dig ys) ∧ nv ys ≤ nv xs) : PureJ Try.prog 58 [.ro xs.length (u32s xs), .ro ys.length (u32s ys)] (.ro (dg (nv xs - nv ys)).length (u32s (dg (nv xs - nv ys)))) := by
  refine pureJ_of_vcp (call := (addPure 56 ent_trim noCalls)) (lp := fun k => bif Nat.beq k 4 then some (lp_minusLoop xs ys) else none) (N := 10) T_ok mixed (addPure_ok ent_trim_ok noCalls_ok) Try.func58 rfl (by decide) (by kernel_rfl) (by kernel_rfl) (of_eq (B := LRuleP Try.prog Try.f58.ntmps (loopAt ((Try.f58.body).getD .skip) 4) (lp_minusLoop xs ys) ∧ True) (by kernel_rfl) ⟨minusLoop_rule xs ys hpre, trivial⟩) (by first | trivial | (simp only [NamelessL, Nameless, and_self, and_true, true_and]; done) | (simp [NamelessL, Nameless, u32s_nameless, namelessL_ints]; done)) (by first | trivial | (simp only [NamelessL, Nameless, and_self, and_true, true_and]; done) | (simp [NamelessL, Nameless, u32s_nameless, namelessL_ints]; done)) ?_
  refine of_eq (B := letI z1 := List.length xs; letI z0 := (z1 * (1 : Nat)); letI z2 := (D.v (Value.int IntKind.u64 (0 : Int))); letI z3 := (D.v (Value.int IntKind.i64 (0 : Int))); letI z4 := ((nv xs) - (nv ys)); letI z5 := (D.ro (List.length ys) (u32s ys)); letI z6 := ([] : List (Option Blk)); letI z7 := (D.ro z1 (u32s xs)); (True ∧ (True ∧ (True ∧ (True ∧ ((MinusJ xs ys (0 : Nat) ([] : List Nat) (0 : Nat)) ∧ (((Bool.true = Bool.true) ∧ ((((u32s ([] : List Nat)) = ([] : List D)) ∧ (z6 = z6)) ∧ ((True ∧ (z7 = z7)) ∧ ((True ∧ (z5 = z5)) ∧ (True ∧ ((True ∧ (z2 = z2)) ∧ ((True ∧ (z3 = z3)) ∧ True))))))) ∧ (∀ (r : (List Nat)), ((((List.length r) = z1) ∧ ((Dig r) ∧ ((nv r) = z4))) → (True ∧ (((((NamelessL (u32s r)) ∧ (((0 : Nat) < (1 : Nat)) ∧ (((0 : Nat) + z0) ≤ (List.length (u32s r))))) ∧ True) ∧ ((((List.take z0 (List.drop (0 : Nat) (u32s r))) = (u32s (unu (List.take z0 (List.drop (0 : Nat) (u32s r)))))) ∧ (z1 = (List.length (unu (List.take z0 (List.drop (0 : Nat) (u32s r))))))) ∧ ((List.length (unu (List.take z0 (List.drop (0 : Nat) (u32s r))))) ≤ (1000000 : Nat)))) ∧ (True ∧ (True ∧ (True ∧ ((D.ro (List.length (trimL (unu (List.take z0 (List.drop (0 : Nat) (u32s r)))))) (u32s (trimL (unu (List.take z0 (List.drop (0 : Nat) (u32s r))))))) = (D.ro (List.length (dg z4)) (u32s (dg z4)))))))))))))))))) (by kernel_rfl) ?_
  simp only [true_and, and_true, and_self, IsInt_lit, IsBool_lit, IsStr_lit, Bool.not_eq_true', Bool.not_eq_false', Bool.not_true, Bool.not_false, Int.reduceLE, Int.reduceLT, Int.reduceNeg, Nat.le_refl, Int.le_refl, Nat.reduceLT, Nat.reduceLeDiff, Nat.reduceEqDiff, D.v.injEq, D.tup.injEq, D.agg.injEq, D.ro.injEq, List.cons.injEq, Value.int.injEq, Value.bool.injEq, pcond_true, pcond_false, NamelessL, Nameless, Nat.reduceMul, Nat.reduceAdd, Nat.zero_add, Int.toNat_natCast, unu_u32s]
  obtain ⟨⟨hbx, hby, hdx, hdy⟩, hge⟩ := hpre
  refine ⟨⟨by omega, rfl, Dig.nil, by omega, by simp [nv]⟩, rfl, ?_⟩
  rintro r ⟨hrl, hrd, hre⟩
  have ht : trimL r = dg (nv xs - nv ys) := by rw [← hre]; exact trimL_dig hrd
  have e : List.take (xs.length * 1) (List.drop 0 (u32s r)) = u32s r := by
    rw [List.drop_zero, Nat.mul_one, ← hrl, ← u32s_length r, List.take_length]
  simp only [e, unu_u32s, ht, hrl, u32s_length]
  simp [u32s_nameless]; omega
def ent_minus : Ent := fun ds => match ds with
  | [.ro n_xs ys_xs, .ro n_ys ys_ys] => some (.ro (dg (nv (unu ys_xs) - nv (unu ys_ys))).length (u32s (dg (nv (unu ys_xs) - nv (unu ys_ys)))), (ys_ys = u32s (unu ys_ys) ∧ n_ys = (unu ys_ys).length) ∧ (ys_xs = u32s (unu ys_xs) ∧ n_xs = (unu ys_xs).length) ∧ ((unu ys_xs).length ≤ 400000 ∧ (unu ys_ys).length ≤ (unu ys_xs).length ∧ Dig (unu ys_xs) ∧ Dig (unu ys_ys)) ∧ nv (unu ys_ys) ≤ nv (unu ys_xs))
  | _ => none
theorem ent_minus_ok : EntOk Try.prog 58 ent_minus := by
  intro ds d c h hc; unfold ent_minus at h; split at h
  · rename_i n_xs ys_xs n_ys ys_ys; obtain ⟨rfl, rfl⟩ := pair_inj h
    obtain ⟨⟨h1, h2⟩, hc⟩ := hc; subst h2; generalize (unu ys_ys) = ys at *; subst h1
    obtain ⟨⟨h1, h2⟩, hc⟩ := hc; subst h2; generalize (unu ys_xs) = xs at *; subst h1
    exact minus_pure xs ys hc
  · cases h
end Go.Proofs.Ythnhfkpihbjddaa
end
section
namespace Go.Proofs.Ythnhfkpihbjddaa
open Go.VD
set_option linter.unusedVariables false
set_option linter.unusedSimpArgs false
set_option maxRecDepth 100000
theorem madeN_of {l : List Nat} {v : Nat} (h : trimL l = dg v) (b : Bool) : madeN b l = (b && decide (v ≠ 0)) := by
  have := (madeN_dg b v).1
  unfold madeN at *
  rw [h]
  rwa [(madeN_dg b v).2] at this
theorem trimL_plus {xs ys : List Nat} (hx : Dig xs) (hy : Dig ys) : trimL (plusL xs ys) = dg (nv xs + nv ys) := by
  unfold plusL
  apply trimL_dgn
  unfold plusN
  split
  · rename_i h
    rw [Nat.add_zero]
    rcases Nat.div_eq_zero_iff.1 h with h | h
    · have := pow_pos32 (plusM xs ys); omega
    · exact h
  · exact plus_lt hx hy
theorem plusL_len (xs ys : List Nat) : (plusL xs ys).length ≤ plusM xs ys + 1 := by
  unfold plusL plusN
  rw [dgn_length]
  split <;> omega
theorem dg_len_mono {a b : Nat} (h : a ≤ b) : (dg a).length ≤ (dg b).length :=
  dg_length_le (Nat.lt_of_le_of_lt h (lt_of_dg_length (Nat.le_refl _)))
theorem good_nat {n : Bool} {xs : List Nat} (h : Good n xs) : xs = dg (nv xs) := h.1
theorem neg_iv {n : Bool} {xs : List Nat} (g : Good n xs) : madeN (!n) xs = decide (-iv n xs < 0) ∧ trimL xs = ofL (-iv n xs) := by
  have e : trimL xs = dg (nv xs) := trimL_dig (good_dig g)
  refine ⟨?_, ?_⟩
  · rw [madeN_of e]
    have := g.2
    unfold iv
    cases n <;> rw [Bool.eq_iff_iff] <;> simp <;> omega
  · rw [e]
    unfold ofL iv
    congr 1
    cases n <;> simp
theorem add_same {xn yn : Bool} {xs ys : List Nat} (h : xn = yn) (hx : Dig xs) (hy : Dig ys) : madeN xn (plusL xs ys) = decide (iv xn xs + iv yn ys < 0) ∧ trimL (plusL xs ys) = ofL (iv xn xs + iv yn ys) := by
  subst h
  have e := trimL_plus hx hy
  refine ⟨?_, ?_⟩
  · rw [madeN_of e]
    unfold iv
    cases xn <;> rw [Bool.eq_iff_iff] <;> simp <;> omega
  · rw [e]
    unfold ofL iv
    congr 1
    cases xn <;> simp <;> omega
theorem add_diff {xn yn : Bool} {xs ys : List Nat} (h : ¬ xn = yn) (hle : nv ys ≤ nv xs) : madeN xn (dg (nv xs - nv ys)) = decide (iv xn xs + iv yn ys < 0) ∧ trimL (dg (nv xs - nv ys)) = ofL (iv xn xs + iv yn ys) := by
  have e := madeN_dg xn (nv xs - nv ys)
  rw [e.1, e.2]
  unfold ofL iv
  refine ⟨?_, ?_⟩
  · cases xn <;> cases yn <;> simp at h <;> rw [Bool.eq_iff_iff] <;> simp <;> omega
  · congr 1
    cases xn <;> cases yn <;> simp at h <;> simp <;> omega
theorem Add_pure (xn : Bool) (xs : List Nat) (yn : Bool) (ys : List Nat) (hpre : (Good xn xs ∧ xs.length ≤ 200) ∧ Good yn ys ∧ ys.length ≤ 200) : PureJ Try.prog 30 [.agg [.v (.bool xn), .ro xs.length (u32s xs)], .agg [.v (.bool yn), .ro ys.length (u32s ys)]] (.tup [d_int (decide (iv xn xs + iv yn ys < 0)) (ofL (iv xn xs + iv yn ys)), .v (.int .i64 0)]) := by
  refine pureJ_of_vcx (call := (addPure 21 ent_Valid (addPure 61 ent_cmpr (addPure 57 ent_plus (addPure 58 ent_minus (addPure 60 ent_made (addPure 59 ent_result noCalls))))))) (lp := fun _ => none) (N := 10) T_ok mixed (addPure_ok ent_Valid_ok (addPure_ok ent_cmpr_ok (addPure_ok ent_plus_ok (addPure_ok ent_minus_ok (addPure_ok ent_made_ok (addPure_ok ent_result_ok noCalls_ok)))))) Try.func30 rfl (by decide) (by kernel_rfl) (by kernel_rfl) (LpAll.none _) (by first | trivial | (simp only [NamelessL, Nameless, and_self, and_true, true_and]; done) | (simp [NamelessL, Nameless, u32s_nameless, namelessL_ints, d_int]; done)) (by first | trivial | (simp only [NamelessL, Nameless, and_self, and_true, true_and]; done) | (simp [NamelessL, Nameless, u32s_nameless, namelessL_ints, d_int]; done)) ?_
  refine of_eq (B := letI z21 := ((iv xn xs) + (iv yn ys)); letI z13 := (D.v (Value.int IntKind.i64 (0 : Int))); letI z0 := (D.tup [(D.agg [(D.v (Value.bool (Decidable.decide (z21 < (0 : Int))))), (D.ro (List.length (ofL z21)) (u32s (ofL z21)))]), z13]); letI z1 := (unu (u32s xs)); letI z2 := (unu (u32s ys)); letI z22 := (dg ((nv z1) - (nv z2))); letI z3 := (unu (u32s z22)); letI z23 := (dg ((nv z2) - (nv z1))); letI z4 := (unu (u32s z23)); letI z9 := ((2 : Nat) ≤ (2 : Nat)); letI z14 := (((2 : Nat) = (2 : Nat)) ∧ z9); letI z11 := ((True ∧ (True ∧ True)) ∧ (True ∧ True)); letI z5 := (True ∧ (z14 ∧ (True ∧ ((z9 ∧ True) ∧ (z11 ∧ ((D.tup [(D.agg [(D.v (Value.bool Bool.false)), (D.v (Value.slice (Option.none) (0 : Nat) (0 : Nat)))]), (D.v (Value.int IntKind.i64 (1 : Int)))]) = z0)))))); letI z18 := List.length z1; letI z6 := (((u32s xs) = (u32s z1)) ∧ ((List.length xs) = z18)); letI z19 := List.length z2; letI z7 := (((u32s ys) = (u32s z2)) ∧ ((List.length ys) = z19)); letI z34 := (u32s (plusL z1 z2)); letI z8 := (unu z34); letI z10 := ((1 : Nat) < (2 : Nat)); letI z32 := ((0 : Nat) < (2 : Nat)); letI z12 := (z32 ∧ (IsBool (D.v (Value.bool xn)))); letI z15 := (unu (u32s (trimL z8))); letI z16 := (unu (u32s (trimL z3))); letI z17 := (unu (u32s (trimL z4))); letI z20 := (z32 ∧ (IsBool (D.v (Value.bool yn)))); letI z24 := Bool.true = Bool.true; letI z33 := (1000000000000 : Nat); letI z25 := (z6 ∧ (z18 ≤ z33)); letI z26 := (400000 : Nat); letI z27 := List.length z15; letI z28 := List.length z16; letI z29 := List.length z17; letI z30 := (1000000 : Nat); letI z31 := ((Dig z1) ∧ (Dig z2)); (True ∧ (True ∧ (True ∧ (True ∧ (z9 ∧ (z25 ∧ (True ∧ (True ∧ (pcond (!(validL xn z1)) (True ∧ z5) (z9 ∧ ((z7 ∧ (z19 ≤ z33)) ∧ (True ∧ (True ∧ (pcond (!(validL yn z2)) z5 (True ∧ (z12 ∧ (True ∧ (z20 ∧ (True ∧ (pcond (xn == yn) (True ∧ (z12 ∧ (True ∧ (z10 ∧ (True ∧ (z10 ∧ ((z7 ∧ (z6 ∧ ((z18 ≤ z26) ∧ ((z19 ≤ z26) ∧ z31)))) ∧ ((((z34 = (u32s z8)) ∧ ((List.length (plusL z1 z2)) = (List.length z8))) ∧ ((List.length z8) ≤ z30)) ∧ (((((u32s (trimL z8)) = (u32s z15)) ∧ ((List.length (trimL z8)) = z27)) ∧ (z27 ≤ (400 : Nat))) ∧ (True ∧ (True ∧ (z14 ∧ (True ∧ (z24 ∧ ((z9 ∧ True) ∧ (z11 ∧ ((D.tup [(D.agg [(D.v (Value.bool (madeN xn z8))), (D.ro z27 (u32s z15))]), z13]) = z0))))))))))))))))) (True ∧ (z10 ∧ (True ∧ (z10 ∧ ((z7 ∧ z25) ∧ (True ∧ (pcond (Decidable.decide ((0 : Int) ≤ (cmpL z1 z2))) (True ∧ (z12 ∧ (True ∧ (z10 ∧ (True ∧ (z10 ∧ ((z7 ∧ (z6 ∧ (((z18 ≤ z26) ∧ ((z19 ≤ z18) ∧ z31)) ∧ ((nv z2) ≤ (nv z1))))) ∧ (((((u32s z22) = (u32s z3)) ∧ ((List.length z22) = (List.length z3))) ∧ ((List.length z3) ≤ z30)) ∧ (((((u32s (trimL z3)) = (u32s z16)) ∧ ((List.length (trimL z3)) = z28)) ∧ (z28 ≤ (400 : Nat))) ∧ (True ∧ (True ∧ (z14 ∧ (True ∧ (z24 ∧ ((z9 ∧ True) ∧ (z11 ∧ ((D.tup [(D.agg [(D.v (Value.bool (madeN xn z3))), (D.ro z28 (u32s z16))]), z13]) = z0))))))))))))))))) (True ∧ (z20 ∧ (True ∧ (z10 ∧ (True ∧ (z10 ∧ ((z6 ∧ (z7 ∧ (((z19 ≤ z26) ∧ ((z18 ≤ z19) ∧ ((Dig z2) ∧ (Dig z1)))) ∧ ((nv z1) ≤ (nv z2))))) ∧ (((((u32s z23) = (u32s z4)) ∧ ((List.length z23) = (List.length z4))) ∧ ((List.length z4) ≤ z30)) ∧ (((((u32s (trimL z4)) = (u32s z17)) ∧ ((List.length (trimL z4)) = z29)) ∧ (z29 ≤ (400 : Nat))) ∧ (True ∧ (True ∧ (z14 ∧ (True ∧ (z24 ∧ ((z9 ∧ True) ∧ (z11 ∧ ((D.tup [(D.agg [(D.v (Value.bool (madeN yn z4))), (D.ro z29 (u32s z17))]), z13]) = z0))))))))))))))))))))))))))))))))))))))))))))) (by kernel_rfl) ?_
  simp only [true_and, and_true, and_self, IsInt_lit, IsBool_lit, IsStr_lit, Bool.not_eq_true', Bool.not_eq_false', Bool.not_true, Bool.not_false, Int.reduceLE, Int.reduceLT, Int.reduceNeg, Nat.le_refl, Int.le_refl, Nat.reduceLT, Nat.reduceLeDiff, Nat.reduceEqDiff, D.v.injEq, D.tup.injEq, D.agg.injEq, D.ro.injEq, List.cons.injEq, Value.int.injEq, Value.bool.injEq, pcond_true, pcond_false, NamelessL, Nameless, Nat.reduceMul, Nat.reduceAdd, Nat.zero_add, Int.toNat_natCast, unu_u32s]
  obtain ⟨⟨gx, lx⟩, gy, ly⟩ := hpre
  have dx := good_dig gx
  have dy := good_dig gy
  rw [good_valid gx (by omega), good_valid gy (by omega)]
  simp only [Bool.not_true, pcond_false]
  have hm : plusM xs ys ≤ 200 := by unfold plusM; omega
  have hpl := plusL_len xs ys
  have hc : cmpL xs ys = cmpN (nv xs) (nv ys) := by rw [gx.1, gy.1, cmpL_dg, ← gx.1, ← gy.1]
  refine ⟨by omega, by omega, pcond_intro (fun h => ?_) (fun h => ⟨by omega, pcond_intro (fun h2 => ?_) (fun h2 => ?_)⟩)⟩
  · obtain ⟨e1, e2⟩ := add_same (by simpa using h) dx dy
    have hlen : (trimL (plusL xs ys)).length ≤ (plusL xs ys).length := by rw [trimL_length]; exact tn_le _ _
    rw [e1]
    rw [e2] at hlen ⊢
    exact ⟨⟨by omega, by omega, dx, dy⟩, by omega, by omega, rfl, rfl, rfl⟩
  · simp only [decide_eq_true_eq, hc] at h2
    have hle : nv ys ≤ nv xs := by unfold cmpN at h2; split at h2 <;> omega
    have hlm := dg_len_mono hle
    rw [← gx.1, ← gy.1] at hlm
    have hl2 := dg_len_mono (show nv xs - nv ys ≤ nv xs by omega)
    rw [← gx.1] at hl2
    obtain ⟨e1, e2⟩ := add_diff (by simpa using h) hle
    have hl3 : (trimL (dg (nv xs - nv ys))).length ≤ 400 := by rw [(madeN_dg true _).2]; omega
    rw [e1]
    rw [e2] at hl3 ⊢
    exact ⟨⟨⟨by omega, hlm, dx, dy⟩, hle⟩, by omega, hl3, rfl, rfl, rfl⟩
  · simp only [decide_eq_false_iff_not, hc] at h2
    have hle : nv xs ≤ nv ys := by unfold cmpN at h2; split at h2 <;> (try split at h2) <;> omega
    have hlm := dg_len_mono hle
    rw [← gx.1, ← gy.1] at hlm
    have hl2 := dg_len_mono (show nv ys - nv xs ≤ nv ys by omega)
    rw [← gy.1] at hl2
    obtain ⟨e1, e2⟩ := add_diff (xn := yn) (yn := xn) (by simp at h; exact fun k => h k.symm) hle
    rw [Int.add_comm] at e1 e2
    have hl3 : (trimL (dg (nv ys - nv xs))).length ≤ 400 := by rw [(madeN_dg true _).2]; omega
    rw [e1]
    rw [e2] at hl3 ⊢
    exact ⟨⟨⟨by omega, hlm, dy, dx⟩, hle⟩, by omega, hl3, rfl, rfl, rfl⟩
def ent_Add : Ent := fun ds => match ds with
  | [.agg [.v (.bool xn), .ro n_xs ys_xs], .agg [.v (.bool yn), .ro n_ys ys_ys]] => some (.tup [d_int (decide (iv xn (unu ys_xs) + iv yn (unu ys_ys) < 0)) (ofL (iv xn (unu ys_xs) + iv yn (unu ys_ys))), .v (.int .i64 0)], (ys_ys = u32s (unu ys_ys) ∧ n_ys = (unu ys_ys).length) ∧ (ys_xs = u32s (unu ys_xs) ∧ n_xs = (unu ys_xs).length) ∧ (Good xn (unu ys_xs) ∧ (unu ys_xs).length ≤ 200) ∧ Good yn (unu ys_ys) ∧ (unu ys_ys).length ≤ 200)
  | _ => none
theorem ent_Add_ok : EntOk Try.prog 30 ent_Add := by
  intro ds d c h hc; unfold ent_Add at h; split at h
  · rename_i xn n_xs ys_xs yn n_ys ys_ys; obtain ⟨rfl, rfl⟩ := pair_inj h
    obtain ⟨⟨h1, h2⟩, hc⟩ := hc; subst h2; generalize (unu ys_ys) = ys at *; subst h1
    obtain ⟨⟨h1, h2⟩, hc⟩ := hc; subst h2; generalize (unu ys_xs) = xs at *; subst h1
    exact Add_pure _ xs _ ys hc
  · cases h
end Go.Proofs.Ythnhfkpihbjddaa
end
