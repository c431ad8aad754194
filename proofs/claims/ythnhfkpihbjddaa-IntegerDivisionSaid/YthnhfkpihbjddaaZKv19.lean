import Derived.Test.YthnhfkpihbjddaaZKv18
import Derived.Test.YthnhfkpihbjddaaZKv17
import Derived.Test.YthnhfkpihbjddaaZKv7
section
namespace Go.Proofs.Ythnhfkpihbjddaa
open Go.VD
set_option linter.unusedVariables false
set_option linter.unusedSimpArgs false
set_option maxRecDepth 100000
theorem gdivB_pure (xs ys : List Nat) (hpre : dHyp xs ys ∧ nv xs < nv ys) : PureJ Try.prog 55 [.ro xs.length (u32s xs), .ro ys.length (u32s ys)] (.tup [.ro (dg (nv xs / nv ys)).length (u32s (dg (nv xs / nv ys))), .ro (dg (nv xs % nv ys)).length (u32s (dg (nv xs % nv ys)))]) := by
  refine pureJ_of_vcpN (call := (addPure 61 ent_cmpr noCalls)) (lp := fun _ => none) (N := 10) T_ok mixed (addPure_ok ent_cmpr_ok noCalls_ok) Try.func55 rfl (by decide) (by kernel_rfl) (by kernel_rfl) (LpAllP.none _) (by first | trivial | (simp only [NamelessL, Nameless, and_self, and_true, true_and]; done) | (simp [NamelessL, Nameless, u32s_nameless, namelessL_ints]; done)) (by first | trivial | (simp only [NamelessL, Nameless, and_self, and_true, true_and]; done) | (simp [NamelessL, Nameless, u32s_nameless, namelessL_ints]; done)) ?_
  refine of_eq (B := letI z6 := (((List.length ys) : Nat) : Int); letI z0 := (IntKind.wrap IntKind.i64 (z6 - (1 : Int))); letI z9 := ((Int.toNat z0) * (1 : Nat)); letI z14 := (List.length (u32s ys)); letI z7 := (List.getD (u32s ys) z9 (Inhabited.default)); letI z1 := ((z9 < z14) ∧ (IsInt IntKind.u32 z7)); letI z2 := (cellInt z7); letI z3 := (((0 : Int) ≤ z0) ∧ (z0 < z6)); letI z4 := (True ∧ (True ∧ False)); letI z5 := (2147483648 : Int); letI z8 := (unu (u32s xs)); letI z10 := (unu (u32s ys)); letI z11 := ((0 : Int) ≤ (0 : Int)); letI z12 := (dg ((nv xs) / (nv ys))); letI z13 := (dg ((nv xs) % (nv ys))); (True ∧ (True ∧ (True ∧ (True ∧ (((((u32s ys) = (u32s z10)) ∧ ((List.length ys) = (List.length z10))) ∧ ((((u32s xs) = (u32s z8)) ∧ ((List.length xs) = (List.length z8))) ∧ ((List.length z8) ≤ (1000000000000 : Nat)))) ∧ (True ∧ (pcond (Decidable.decide ((cmpL z8 z10) < (0 : Int))) (True ∧ (True ∧ (True ∧ (True ∧ ((True ∧ (True ∧ True)) ∧ ((D.tup [(D.ro (0 : Nat) ([] : List D)), (D.ro (List.length xs) (u32s xs))]) = (D.tup [(D.ro (List.length z12) (u32s z12)), (D.ro (List.length z13) (u32s z13))]))))))) (True ∧ (True ∧ (True ∧ (pcond (z6 == (1 : Int)) (True ∧ (True ∧ ((z11 ∧ ((0 : Int) < z6)) ∧ ((((0 : Nat) < z14) ∧ (IsInt IntKind.u32 (List.getD (u32s ys) (0 : Nat) (Inhabited.default)))) ∧ False)))) (True ∧ (True ∧ (True ∧ (True ∧ (True ∧ (z3 ∧ (z1 ∧ (True ∧ (True ∧ (z11 ∧ (True ∧ (True ∧ (pcond ((bits BinOp.and IntKind.u32 (IntKind.wrap IntKind.u32 (z2 * (1 : Int))) z5) == (0 : Int)) (True ∧ (True ∧ (True ∧ (True ∧ (True ∧ (True ∧ (True ∧ (z3 ∧ (z1 ∧ (True ∧ (True ∧ (((0 : Int) ≤ (1 : Int)) ∧ (True ∧ (True ∧ (pcond ((bits BinOp.and IntKind.u32 (IntKind.wrap IntKind.u32 (z2 * (2 : Int))) z5) == (0 : Int)) (True ∧ (True ∧ (True ∧ (True ∧ (True ∧ (True ∧ (True ∧ (z3 ∧ (z1 ∧ (True ∧ (True ∧ (((0 : Int) ≤ (2 : Int)) ∧ (True ∧ (True ∧ (pcond ((bits BinOp.and IntKind.u32 (IntKind.wrap IntKind.u32 (z2 * (4 : Int))) z5) == (0 : Int)) (True ∧ (True ∧ (True ∧ (True ∧ (True ∧ (True ∧ (True ∧ (z3 ∧ (z1 ∧ (True ∧ (True ∧ (((0 : Int) ≤ (3 : Int)) ∧ (True ∧ (True ∧ (pcond ((bits BinOp.and IntKind.u32 (IntKind.wrap IntKind.u32 (z2 * (8 : Int))) z5) == (0 : Int)) (True ∧ (True ∧ (True ∧ (True ∧ (True ∧ (True ∧ (True ∧ (z3 ∧ (z1 ∧ (True ∧ (True ∧ (((0 : Int) ≤ (4 : Int)) ∧ (True ∧ (True ∧ (pcond ((bits BinOp.and IntKind.u32 (IntKind.wrap IntKind.u32 (z2 * (16 : Int))) z5) == (0 : Int)) (True ∧ (True ∧ (True ∧ (True ∧ (True ∧ (True ∧ (True ∧ (z3 ∧ (z1 ∧ (True ∧ (True ∧ (((0 : Int) ≤ (5 : Int)) ∧ (True ∧ (True ∧ (pcond ((bits BinOp.and IntKind.u32 (IntKind.wrap IntKind.u32 (z2 * (32 : Int))) z5) == (0 : Int)) (True ∧ (True ∧ (True ∧ (True ∧ (True ∧ (True ∧ (True ∧ (z3 ∧ (z1 ∧ (True ∧ (True ∧ (((0 : Int) ≤ (6 : Int)) ∧ (True ∧ (True ∧ (pcond ((bits BinOp.and IntKind.u32 (IntKind.wrap IntKind.u32 (z2 * (64 : Int))) z5) == (0 : Int)) (True ∧ (True ∧ (True ∧ (True ∧ (True ∧ (True ∧ (True ∧ (z3 ∧ (z1 ∧ (True ∧ (True ∧ (((0 : Int) ≤ (7 : Int)) ∧ (True ∧ (True ∧ (pcond ((bits BinOp.and IntKind.u32 (IntKind.wrap IntKind.u32 (z2 * (128 : Int))) z5) == (0 : Int)) (True ∧ (True ∧ (True ∧ (True ∧ (True ∧ (True ∧ (True ∧ (z3 ∧ (z1 ∧ (True ∧ (True ∧ (((0 : Int) ≤ (8 : Int)) ∧ (True ∧ (True ∧ (pcond ((bits BinOp.and IntKind.u32 (IntKind.wrap IntKind.u32 (z2 * (256 : Int))) z5) == (0 : Int)) (True ∧ (True ∧ (True ∧ (True ∧ (True ∧ (True ∧ (True ∧ (z3 ∧ (z1 ∧ (True ∧ (True ∧ (((0 : Int) ≤ (9 : Int)) ∧ (True ∧ (True ∧ (pcond ((bits BinOp.and IntKind.u32 (IntKind.wrap IntKind.u32 (z2 * (512 : Int))) z5) == (0 : Int)) (True ∧ z4) z4))))))))))))))) z4))))))))))))))) z4))))))))))))))) z4))))))))))))))) z4))))))))))))))) z4))))))))))))))) z4))))))))))))))) z4))))))))))))))) z4))))))))))))))) z4))))))))))))))))))))))))) (by kernel_rfl) ?_
  simp only [true_and, and_true, and_self, IsInt_lit, IsBool_lit, IsStr_lit, Bool.not_eq_true', Bool.not_eq_false', Bool.not_true, Bool.not_false, Int.reduceLE, Int.reduceLT, Int.reduceNeg, Nat.le_refl, Int.le_refl, Nat.reduceLT, Nat.reduceLeDiff, Nat.reduceEqDiff, D.v.injEq, D.tup.injEq, D.agg.injEq, D.ro.injEq, List.cons.injEq, Value.int.injEq, Value.bool.injEq, pcond_true, pcond_false, NamelessL, Nameless, Nat.reduceMul, Nat.reduceAdd, Nat.zero_add, Int.toNat_natCast, unu_u32s]
  obtain ⟨⟨⟨⟨hlx, hly⟩, gx, gy⟩, h0⟩, hlt⟩ := hpre
  have hc : decide (cmpL xs ys < 0) = true := by rw [cmp_canon gx gy]; simp [cmpN, hlt]
  rw [hc, pcond_true, Nat.div_eq_of_lt hlt, Nat.mod_eq_of_lt hlt, ← gx, dg_zero]
  exact ⟨by omega, ⟨rfl, rfl⟩, rfl, rfl⟩
def ent_gdivB : Ent := fun ds => match ds with
  | [.ro n_xs ys_xs, .ro n_ys ys_ys] => some (.tup [.ro (dg (nv (unu ys_xs) / nv (unu ys_ys))).length (u32s (dg (nv (unu ys_xs) / nv (unu ys_ys)))), .ro (dg (nv (unu ys_xs) % nv (unu ys_ys))).length (u32s (dg (nv (unu ys_xs) % nv (unu ys_ys))))], (ys_ys = u32s (unu ys_ys) ∧ n_ys = (unu ys_ys).length) ∧ (ys_xs = u32s (unu ys_xs) ∧ n_xs = (unu ys_xs).length) ∧ dHyp (unu ys_xs) (unu ys_ys) ∧ nv (unu ys_xs) < nv (unu ys_ys))
  | _ => none
theorem ent_gdivB_ok : EntOk Try.prog 55 ent_gdivB := by
  intro ds d c h hc; unfold ent_gdivB at h; split at h
  · rename_i n_xs ys_xs n_ys ys_ys; obtain ⟨rfl, rfl⟩ := pair_inj h
    obtain ⟨⟨h1, h2⟩, hc⟩ := hc; subst h2; generalize (unu ys_ys) = ys at *; subst h1
    obtain ⟨⟨h1, h2⟩, hc⟩ := hc; subst h2; generalize (unu ys_xs) = xs at *; subst h1
    exact gdivB_pure xs ys hc
  · cases h
theorem gdivC_pure (xs ys : List Nat) (hpre : dHyp xs ys ∧ nv ys ≤ nv xs ∧ ys.length = 1) : PureJ Try.prog 55 [.ro xs.length (u32s xs), .ro ys.length (u32s ys)] (.tup [.ro (dg (nv xs / nv ys)).length (u32s (dg (nv xs / nv ys))), .ro (dg (nv xs % nv ys)).length (u32s (dg (nv xs % nv ys)))]) := by
  refine pureJ_of_vcpN (call := (addPure 61 ent_cmpr (addPure 98 ent_short (addPure 56 ent_trim noCalls)))) (lp := fun _ => none) (N := 10) T_ok mixed (addPure_ok ent_cmpr_ok (addPure_ok ent_short_ok (addPure_ok ent_trim_ok noCalls_ok))) Try.func55 rfl (by decide) (by kernel_rfl) (by kernel_rfl) (LpAllP.none _) (by first | trivial | (simp only [NamelessL, Nameless, and_self, and_true, true_and]; done) | (simp [NamelessL, Nameless, u32s_nameless, namelessL_ints]; done)) (by first | trivial | (simp only [NamelessL, Nameless, and_self, and_true, true_and]; done) | (simp [NamelessL, Nameless, u32s_nameless, namelessL_ints]; done)) ?_
  refine of_eq (B := letI z10 := (((List.length ys) : Nat) : Int); letI z0 := (IntKind.wrap IntKind.i64 (z10 - (1 : Int))); letI z15 := ((Int.toNat z0) * (1 : Nat)); letI z22 := (List.length (u32s ys)); letI z11 := (List.getD (u32s ys) z15 (Inhabited.default)); letI z1 := ((z15 < z22) ∧ (IsInt IntKind.u32 z11)); letI z9 := (unu (u32s xs)); letI z5 := (List.getD (u32s ys) (0 : Nat) (Inhabited.default)); letI z13 := (Int.toNat (cellInt z5)); letI z2 := (D.v (Value.int IntKind.u32 ((((nv z9) % z13) : Nat) : Int))); letI z3 := (cellInt z11); letI z4 := (((0 : Int) ≤ z0) ∧ (z0 < z10)); letI z6 := (True ∧ (True ∧ False)); letI z20 := (dg ((nv xs) / (nv ys))); letI z21 := (dg ((nv xs) % (nv ys))); letI z7 := (D.tup [(D.ro (List.length z20) (u32s z20)), (D.ro (List.length z21) (u32s z21))]); letI z8 := (2147483648 : Int); letI z14 := List.length z9; letI z12 := (((u32s xs) = (u32s z9)) ∧ ((List.length xs) = z14)); letI z16 := (unu (u32s ys)); letI z17 := (True ∧ (True ∧ True)); letI z18 := ((0 : Int) ≤ (0 : Int)); letI z19 := (List.length (unu [z2])); letI z23 := (dg ((nv z9) / z13)); (True ∧ (True ∧ (True ∧ (True ∧ (((((u32s ys) = (u32s z16)) ∧ ((List.length ys) = (List.length z16))) ∧ (z12 ∧ (z14 ≤ (1000000000000 : Nat)))) ∧ (True ∧ (pcond (Decidable.decide ((cmpL z9 z16) < (0 : Int))) (True ∧ (True ∧ (True ∧ (True ∧ (z17 ∧ ((D.tup [(D.ro (0 : Nat) ([] : List D)), (D.ro (List.length xs) (u32s xs))]) = z7)))))) (True ∧ (True ∧ (True ∧ (pcond (z10 == (1 : Int)) (True ∧ (True ∧ ((z18 ∧ ((0 : Int) < z10)) ∧ ((((0 : Nat) < z22) ∧ (IsInt IntKind.u32 z5)) ∧ ((z12 ∧ (((z14 ≤ (400000 : Nat)) ∧ (Dig z9)) ∧ (((0 : Int) < (cellInt z5)) ∧ ((cellInt z5) < (4294967296 : Int))))) ∧ (True ∧ (True ∧ (True ∧ (True ∧ (True ∧ (True ∧ (True ∧ ((((1 : Nat) ≤ (16777216 : Nat)) ∧ ((1 : Nat) ≤ (9223372036854775807 : Nat))) ∧ (((((NamelessL [z2]) ∧ (((0 : Nat) < (1 : Nat)) ∧ ((1 : Nat) ≤ (1 : Nat)))) ∧ True) ∧ ((([z2] = (u32s (unu [z2]))) ∧ ((1 : Nat) = z19)) ∧ (z19 ≤ (1000000 : Nat)))) ∧ (True ∧ (True ∧ (True ∧ (z17 ∧ ((D.tup [(D.ro (List.length z23) (u32s z23)), (D.ro (List.length (trimL (unu [z2]))) (u32s (trimL (unu [z2]))))]) = z7))))))))))))))))))) (True ∧ (True ∧ (True ∧ (True ∧ (True ∧ (z4 ∧ (z1 ∧ (True ∧ (True ∧ (z18 ∧ (True ∧ (True ∧ (pcond ((bits BinOp.and IntKind.u32 (IntKind.wrap IntKind.u32 (z3 * (1 : Int))) z8) == (0 : Int)) (True ∧ (True ∧ (True ∧ (True ∧ (True ∧ (True ∧ (True ∧ (z4 ∧ (z1 ∧ (True ∧ (True ∧ (((0 : Int) ≤ (1 : Int)) ∧ (True ∧ (True ∧ (pcond ((bits BinOp.and IntKind.u32 (IntKind.wrap IntKind.u32 (z3 * (2 : Int))) z8) == (0 : Int)) (True ∧ (True ∧ (True ∧ (True ∧ (True ∧ (True ∧ (True ∧ (z4 ∧ (z1 ∧ (True ∧ (True ∧ (((0 : Int) ≤ (2 : Int)) ∧ (True ∧ (True ∧ (pcond ((bits BinOp.and IntKind.u32 (IntKind.wrap IntKind.u32 (z3 * (4 : Int))) z8) == (0 : Int)) (True ∧ (True ∧ (True ∧ (True ∧ (True ∧ (True ∧ (True ∧ (z4 ∧ (z1 ∧ (True ∧ (True ∧ (((0 : Int) ≤ (3 : Int)) ∧ (True ∧ (True ∧ (pcond ((bits BinOp.and IntKind.u32 (IntKind.wrap IntKind.u32 (z3 * (8 : Int))) z8) == (0 : Int)) (True ∧ (True ∧ (True ∧ (True ∧ (True ∧ (True ∧ (True ∧ (z4 ∧ (z1 ∧ (True ∧ (True ∧ (((0 : Int) ≤ (4 : Int)) ∧ (True ∧ (True ∧ (pcond ((bits BinOp.and IntKind.u32 (IntKind.wrap IntKind.u32 (z3 * (16 : Int))) z8) == (0 : Int)) (True ∧ (True ∧ (True ∧ (True ∧ (True ∧ (True ∧ (True ∧ (z4 ∧ (z1 ∧ (True ∧ (True ∧ (((0 : Int) ≤ (5 : Int)) ∧ (True ∧ (True ∧ (pcond ((bits BinOp.and IntKind.u32 (IntKind.wrap IntKind.u32 (z3 * (32 : Int))) z8) == (0 : Int)) (True ∧ (True ∧ (True ∧ (True ∧ (True ∧ (True ∧ (True ∧ (z4 ∧ (z1 ∧ (True ∧ (True ∧ (((0 : Int) ≤ (6 : Int)) ∧ (True ∧ (True ∧ (pcond ((bits BinOp.and IntKind.u32 (IntKind.wrap IntKind.u32 (z3 * (64 : Int))) z8) == (0 : Int)) (True ∧ (True ∧ (True ∧ (True ∧ (True ∧ (True ∧ (True ∧ (z4 ∧ (z1 ∧ (True ∧ (True ∧ (((0 : Int) ≤ (7 : Int)) ∧ (True ∧ (True ∧ (pcond ((bits BinOp.and IntKind.u32 (IntKind.wrap IntKind.u32 (z3 * (128 : Int))) z8) == (0 : Int)) (True ∧ (True ∧ (True ∧ (True ∧ (True ∧ (True ∧ (True ∧ (z4 ∧ (z1 ∧ (True ∧ (True ∧ (((0 : Int) ≤ (8 : Int)) ∧ (True ∧ (True ∧ (pcond ((bits BinOp.and IntKind.u32 (IntKind.wrap IntKind.u32 (z3 * (256 : Int))) z8) == (0 : Int)) (True ∧ (True ∧ (True ∧ (True ∧ (True ∧ (True ∧ (True ∧ (z4 ∧ (z1 ∧ (True ∧ (True ∧ (((0 : Int) ≤ (9 : Int)) ∧ (True ∧ (True ∧ (pcond ((bits BinOp.and IntKind.u32 (IntKind.wrap IntKind.u32 (z3 * (512 : Int))) z8) == (0 : Int)) (True ∧ z6) z6))))))))))))))) z6))))))))))))))) z6))))))))))))))) z6))))))))))))))) z6))))))))))))))) z6))))))))))))))) z6))))))))))))))) z6))))))))))))))) z6))))))))))))))) z6))))))))))))))))))))))))) (by kernel_rfl) ?_
  simp only [true_and, and_true, and_self, IsInt_lit, IsBool_lit, IsStr_lit, Bool.not_eq_true', Bool.not_eq_false', Bool.not_true, Bool.not_false, Int.reduceLE, Int.reduceLT, Int.reduceNeg, Nat.le_refl, Int.le_refl, Nat.reduceLT, Nat.reduceLeDiff, Nat.reduceEqDiff, D.v.injEq, D.tup.injEq, D.agg.injEq, D.ro.injEq, List.cons.injEq, Value.int.injEq, Value.bool.injEq, pcond_true, pcond_false, NamelessL, Nameless, Nat.reduceMul, Nat.reduceAdd, Nat.zero_add, Int.toNat_natCast, unu_u32s]
  obtain ⟨⟨⟨⟨hlx, hly⟩, gx, gy⟩, h0⟩, hle, h1⟩ := hpre
  have dx : Dig xs := by rw [gx]; exact dg_dig _
  have dy : Dig ys := by rw [gy]; exact dg_dig _
  have hc : decide (cmpL xs ys < 0) = false := by rw [cmp_canon gx gy]; unfold cmpN; rw [if_neg (by omega)]; split <;> rfl
  have hc2 : ((ys.length : Int) == 1) = true := by simp; omega
  obtain ⟨y, rfl⟩ : ∃ y, ys = [y] := List.length_eq_one_iff.1 h1
  have hv : nv [y] = y := by simp [nv]
  have hy := dy.get 0
  have hg : ([y] : List Nat).getD 0 0 = y := rfl
  rw [hg] at hy
  rw [hc, hc2, pcond_false, pcond_true]
  rw [hv] at hle h0 ⊢
  have hm := Nat.mod_lt (nv xs) h0
  have hu1 : ∀ n : Nat, unu [D.v (Value.int IntKind.u32 (n : Int))] = [n] := fun n => unu_u32s [n]
  have ht : trimL [nv xs % y] = dg (nv xs % y) := trimL_dgn (k := 1) (v := nv xs % y) (by omega) ▸ (by
    have : dgn 1 (nv xs % y) = [nv xs % y] := by rw [dgn, dgn, Nat.mod_eq_of_lt (by omega)]
    rw [this])
  simp only [u32s_cell, hg, Int.toNat_natCast, u32s_isInt [y] 0 (by simp), and_true, Nat.mul_one, u32s_length, hu1, ht]
  exact ⟨by omega, by simp, by simp, ⟨⟨by omega, dx⟩, by omega, by omega⟩, ⟨rfl, rfl⟩, by simp⟩
def ent_gdivC : Ent := fun ds => match ds with
  | [.ro n_xs ys_xs, .ro n_ys ys_ys] => some (.tup [.ro (dg (nv (unu ys_xs) / nv (unu ys_ys))).length (u32s (dg (nv (unu ys_xs) / nv (unu ys_ys)))), .ro (dg (nv (unu ys_xs) % nv (unu ys_ys))).length (u32s (dg (nv (unu ys_xs) % nv (unu ys_ys))))], (ys_ys = u32s (unu ys_ys) ∧ n_ys = (unu ys_ys).length) ∧ (ys_xs = u32s (unu ys_xs) ∧ n_xs = (unu ys_xs).length) ∧ dHyp (unu ys_xs) (unu ys_ys) ∧ nv (unu ys_ys) ≤ nv (unu ys_xs) ∧ (unu ys_ys).length = 1)
  | _ => none
theorem ent_gdivC_ok : EntOk Try.prog 55 ent_gdivC := by
  intro ds d c h hc; unfold ent_gdivC at h; split at h
  · rename_i n_xs ys_xs n_ys ys_ys; obtain ⟨rfl, rfl⟩ := pair_inj h
    obtain ⟨⟨h1, h2⟩, hc⟩ := hc; subst h2; generalize (unu ys_ys) = ys at *; subst h1
    obtain ⟨⟨h1, h2⟩, hc⟩ := hc; subst h2; generalize (unu ys_xs) = xs at *; subst h1
    exact gdivC_pure xs ys hc
  · cases h
theorem gdivA_pure (xs ys : List Nat) (hpre : dHyp2 xs ys ∧ nv ys ≤ nv xs) : PureJ Try.prog 55 [.ro xs.length (u32s xs), .ro ys.length (u32s ys)] (.tup [.ro (dg (nv xs / nv ys)).length (u32s (dg (nv xs / nv ys))), .ro (dg (nv xs % nv ys)).length (u32s (dg (nv xs % nv ys)))]) := by
  refine pureJ_of_vcpN (call := (addPure 61 ent_cmpr (addMake 99 entk_gsh (addPure 56 ent_trim (addPure 64 ent_gback noCalls))))) (lp := fun k => bif Nat.beq k 7 then some (lp_gnormLoop xs ys) else bif Nat.beq k 12 then some (lp_gdivLoop xs ys) else none) (N := 10) T_ok mixed (addPure_ok ent_cmpr_ok (addMake_ok entk_gsh_ok (addPure_ok ent_trim_ok (addPure_ok ent_gback_ok noCalls_ok)))) Try.func55 rfl (by decide) (by kernel_rfl) (by kernel_rfl) (of_eq (B := letI z0 := ((Try.f55.body).getD .skip); LRuleP Try.prog Try.f55.ntmps (loopAt z0 7) (lp_gnormLoop xs ys) ∧ LRuleP Try.prog Try.f55.ntmps (loopAt z0 12) (lp_gdivLoop xs ys) ∧ True) (by kernel_rfl) ⟨gnormLoop_rule xs ys hpre.1, ⟨gdivLoop_rule xs ys hpre.1, trivial⟩⟩) (by first | trivial | (simp only [NamelessL, Nameless, and_self, and_true, true_and]; done) | (simp [NamelessL, Nameless, u32s_nameless, namelessL_ints]; done)) (by first | trivial | (simp only [NamelessL, Nameless, and_self, and_true, true_and]; done) | (simp [NamelessL, Nameless, u32s_nameless, namelessL_ints]; done)) ?_
  refine of_eq (B := letI z7 := List.length xs; letI z11 := List.length ys; letI z3 := ((z11 : Nat) : Int); letI z23 := (IntKind.wrap IntKind.i64 (((z7 : Nat) : Int) - z3)); letI z0 := (IntKind.wrap IntKind.i64 (z23 + (1 : Int))); letI z39 := (List.length (dvs ys)); letI z10 := ((z39 : Nat) : Int); letI z34 := ((Int.toNat z10) - (0 : Nat)); letI z1 := (z34 * (1 : Nat)); letI z2 := (((dsh ys) : Nat) : Int); letI z9 := (unu (u32s ys)); letI z21 := List.length z9; letI z12 := ((2 : Nat) ^ (Int.toNat z2)); letI z4 := (u32s (dgn (z21 + (1 : Nat)) ((nv z9) * z12))); letI z36 := (dg ((nv xs) / (nv ys))); letI z37 := (dg ((nv xs) % (nv ys))); letI z5 := (D.tup [(D.ro (List.length z36) (u32s z36)), (D.ro (List.length z37) (u32s z37))]); letI z15 := (unu (u32s xs)); letI z6 := (List.length z15); letI z8 := ((dM xs ys) * (1 : Nat)); letI z13 := ((nv xs) * ((2 : Nat) ^ (dsh ys))); letI z14 := (((0 : Int) ≤ z2) ∧ (z2 < (32 : Int))); letI z16 := (List.replicate (dM xs ys) (0 : Nat)); letI z17 := (List.replicate (Int.toNat z0) (D.v (Value.int IntKind.u32 (0 : Int)))); letI z18 := ([] : List (Option Blk)); letI z19 := Bool.true = Bool.true; letI z20 := (Cap.toEnd (1 : Nat)); letI z22 := ((Int.toNat z3) - (0 : Nat)); letI z24 := (u32s (dgn (z6 + (1 : Nat)) ((nv z15) * z12))); letI z25 := ((0 : Nat) < (1 : Nat)); letI z26 := (z7 + (1 : Nat)); letI z27 := (((u32s ys) = (u32s z9)) ∧ (z11 = z21)); letI z28 := (z13 / ((4294967296 : Nat) ^ (dM xs ys))); letI z29 := (((u32s xs) = (u32s z15)) ∧ (z7 = z6)); letI z30 := (D.v (Value.int IntKind.i64 (0 : Int))); letI z31 := (1000000 : Nat); letI z32 := (D.ro z7 (u32s xs)); letI z33 := (D.v (Value.int IntKind.i64 z2)); letI z35 := (True ∧ (True ∧ True)); letI z38 := ((1 : Nat) = (1 : Nat)); letI z40 := (D.ro z11 (u32s ys)); (True ∧ (True ∧ (True ∧ (True ∧ ((z27 ∧ (z29 ∧ (z6 ≤ (1000000000000 : Nat)))) ∧ (True ∧ (pcond (Decidable.decide ((cmpL z15 z9) < (0 : Int))) (True ∧ (True ∧ (True ∧ (True ∧ (z35 ∧ ((D.tup [(D.ro (0 : Nat) ([] : List D)), z32]) = z5)))))) (True ∧ (True ∧ (True ∧ (pcond (z3 == (1 : Int)) (True ∧ (True ∧ ((((0 : Int) ≤ (0 : Int)) ∧ ((0 : Int) < z3)) ∧ ((((0 : Nat) < (List.length (u32s ys))) ∧ (IsInt IntKind.u32 (List.getD (u32s ys) (0 : Nat) (Inhabited.default)))) ∧ False)))) (True ∧ (((0 : Nat) ≤ (dsh ys)) ∧ ((z19 ∧ ((z18 = z18) ∧ ((True ∧ (z32 = z32)) ∧ ((True ∧ (z40 = z40)) ∧ ((True ∧ (z30 = z30)) ∧ True))))) ∧ (Unit → (True → (True ∧ (True ∧ ((z29 ∧ (((z6 ≤ z31) ∧ (Dig z15)) ∧ z14)) ∧ (True ∧ (True ∧ ((z27 ∧ (((z21 ≤ z31) ∧ (Dig z9)) ∧ z14)) ∧ (True ∧ (True ∧ (((True ∧ ((((0 : Int) ≤ z3) ∧ (z3 ≤ (((z21 + (1 : Nat)) : Nat) : Int))) ∧ True)) ∧ z38) ∧ (True ∧ (True ∧ (z19 ∧ (True ∧ (True ∧ (True ∧ (True ∧ (True ∧ (True ∧ ((((0 : Int) ≤ z0) ∧ ((z0 ≤ z0) ∧ ((((4 : Int) * z0) ≤ (281474976710656 : Int)) ∧ (z0 ≤ (9223372036854775807 : Int))))) ∧ (True ∧ (True ∧ (True ∧ (True ∧ (True ∧ (True ∧ (True ∧ (((((dM xs ys) ≤ (dM xs ys)) ∧ (((List.length (dU0 xs ys)) = z26) ∧ (Dig (dU0 xs ys)))) ∧ (((List.take ((dM xs ys) + z11) (dU0 xs ys)) = ((List.take (dM xs ys) (dU0 xs ys)) ++ (dgn z11 (z28 % (nv (dvs ys)))))) ∧ (z16 = (z16 ++ (dgn ((dM xs ys) - (dM xs ys)) (z28 / (nv (dvs ys)))))))) ∧ ((z19 ∧ (((((Option.some (Blk.mk (41 : Nat) (u32s (dU0 xs ys)) Bool.true)) = (Option.some (Blk.mk (41 : Nat) z24 Bool.true))) ∧ (NamelessL z24)) ∧ ((((Option.some (Blk.mk (41 : Nat) (u32s z16) Bool.true)) = (Option.some (Blk.mk (41 : Nat) z17 Bool.true))) ∧ (NamelessL z17)) ∧ (z18 = z18))) ∧ ((True ∧ (z33 = z33)) ∧ ((True ∧ ((D.sl (0 : Nat) (0 : Nat) (z6 + (1 : Nat)) z20) = (D.sl (0 : Nat) (0 : Nat) z26 z20))) ∧ ((((NamelessL z4) ∧ (z25 ∧ (((0 : Nat) + (z22 * (1 : Nat))) ≤ (List.length z4)))) ∧ ((D.ro z22 (List.take (z22 * (1 : Nat)) (List.drop (0 : Nat) z4))) = (D.ro z39 (u32s (dvs ys))))) ∧ ((True ∧ ((D.sl (1 : Nat) (0 : Nat) (Int.toNat z0) z20) = (D.sl (1 : Nat) (0 : Nat) (dM xs ys) z20))) ∧ ((True ∧ ((D.v (Value.int IntKind.i64 z23)) = (D.v (Value.int IntKind.i64 ((((dM xs ys) : Nat) : Int) - (1 : Int)))))) ∧ True))))))) ∧ (∀ (r : (Prod (List Nat) (List Nat))), (((((List.length (Prod.fst r)) = z26) ∧ ((Dig (Prod.fst r)) ∧ ((List.take z11 (Prod.fst r)) = (dgn z11 (z13 % (nv (dvs ys))))))) ∧ ((Prod.snd r) = (dgn (dM xs ys) (z13 / (nv (dvs ys)))))) → (True ∧ (((((NamelessL (u32s (Prod.snd r))) ∧ (z25 ∧ (((0 : Nat) + z8) ≤ (List.length (u32s (Prod.snd r)))))) ∧ True) ∧ ((((List.take z8 (List.drop (0 : Nat) (u32s (Prod.snd r)))) = (u32s (unu (List.take z8 (List.drop (0 : Nat) (u32s (Prod.snd r))))))) ∧ ((dM xs ys) = (List.length (unu (List.take z8 (List.drop (0 : Nat) (u32s (Prod.snd r)))))))) ∧ ((List.length (unu (List.take z8 (List.drop (0 : Nat) (u32s (Prod.snd r)))))) ≤ z31))) ∧ (True ∧ (True ∧ (True ∧ (((True ∧ ((((0 : Int) ≤ z10) ∧ (z10 ≤ ((z26 : Nat) : Int))) ∧ True)) ∧ z38) ∧ (True ∧ (((((NamelessL (u32s (Prod.fst r))) ∧ (z25 ∧ (((0 : Nat) + z1) ≤ (List.length (u32s (Prod.fst r)))))) ∧ (True ∧ True)) ∧ ((((List.take z1 (List.drop (0 : Nat) (u32s (Prod.fst r)))) = (u32s (unu (List.take z1 (List.drop (0 : Nat) (u32s (Prod.fst r))))))) ∧ (z34 = (List.length (unu (List.take z1 (List.drop (0 : Nat) (u32s (Prod.fst r)))))))) ∧ ((((List.length (unu (List.take z1 (List.drop (0 : Nat) (u32s (Prod.fst r)))))) ≤ z31) ∧ (Dig (unu (List.take z1 (List.drop (0 : Nat) (u32s (Prod.fst r))))))) ∧ z14))) ∧ (True ∧ (True ∧ (z19 ∧ (True ∧ (z35 ∧ ((D.tup [(D.ro (List.length (trimL (unu (List.take z8 (List.drop (0 : Nat) (u32s (Prod.snd r))))))) (u32s (trimL (unu (List.take z8 (List.drop (0 : Nat) (u32s (Prod.snd r)))))))), (D.ro (List.length (dg ((nv (unu (List.take z1 (List.drop (0 : Nat) (u32s (Prod.fst r)))))) / z12))) (u32s (dg ((nv (unu (List.take z1 (List.drop (0 : Nat) (u32s (Prod.fst r)))))) / z12))))]) = z5))))))))))))))))))))))))))))))))))))))))))))))))))))))))))))) (by kernel_rfl) ?_
  simp only [true_and, and_true, and_self, IsInt_lit, IsBool_lit, IsStr_lit, Bool.not_eq_true', Bool.not_eq_false', Bool.not_true, Bool.not_false, Int.reduceLE, Int.reduceLT, Int.reduceNeg, Nat.le_refl, Int.le_refl, Nat.reduceLT, Nat.reduceLeDiff, Nat.reduceEqDiff, D.v.injEq, D.tup.injEq, D.agg.injEq, D.ro.injEq, List.cons.injEq, Value.int.injEq, Value.bool.injEq, pcond_true, pcond_false, NamelessL, Nameless, Nat.reduceMul, Nat.reduceAdd, Nat.zero_add, Int.toNat_natCast, unu_u32s]
  obtain ⟨hd, hle⟩ := hpre
  obtain ⟨⟨f1, f2⟩, ⟨f3, f4⟩, ⟨f5, f6⟩, f7, f8, dx, dy, dv⟩ := div_facts hd
  obtain ⟨⟨⟨⟨hlx, hly⟩, gx, gy⟩, h0⟩, h2, hll⟩ := hd
  have hc : decide (cmpL xs ys < 0) = false := by rw [cmp_canon gx gy]; unfold cmpN; rw [if_neg (by omega)]; split <;> rfl
  have hc2 : ((ys.length : Int) == 1) = false := by simp; omega
  have w2 : IntKind.i64.wrap (IntKind.i64.wrap ((xs.length : Int) - (ys.length : Int)) + 1) = ((dM xs ys : Nat) : Int) := by
    rw [wrap_i64_of (n := (xs.length : Int) - (ys.length : Int)) (by omega) (by omega), wrap_i64_of (by omega) (by omega)]; unfold dM; omega
  have w3 : IntKind.i64.wrap ((xs.length : Int) - (ys.length : Int)) = (dM xs ys : Int) - 1 := by rw [wrap_i64_of (by omega) (by omega)]; unfold dM; omega
  obtain ⟨s1, s2⟩ := div_start (M := dM xs ys) (n := ys.length) (V := nv (dvs ys)) dx f7 f8 (by omega) f6
  have e0 : List.replicate (dM xs ys) (D.v (Value.int IntKind.u32 0)) = u32s (List.replicate (dM xs ys) 0) := u32s_replicate _ 0
  have hU : dU0 xs ys = dgn (xs.length + 1) (nv xs * 2 ^ dsh ys) := rfl
  rw [hc, hc2, pcond_false, pcond_false]
  simp only [w2, Int.toNat_natCast, Nat.mul_one, u32s_length, List.drop_zero, unu_u32s, e0, f2, dgn_length, Nat.sub_self, Nat.sub_zero, s2, hU]
  have hYB : nv ys * 2 ^ dsh ys < 4294967296 ^ ys.length := by rw [← f1]; exact f5
  have hvs : List.take ys.length (u32s (dgn (ys.length + 1) (nv ys * 2 ^ dsh ys))) = u32s (dvs ys) := by
    rw [u32s_take, dgn_add, List.take_left' (dgn_length _ _)]
    congr 1
    have := dgn_nv dv
    rw [f2, f1] at this
    exact this
  refine ⟨by omega, Nat.zero_le _, fun _ _ => ⟨⟨⟨by omega, dx⟩, by omega, by omega⟩, ⟨⟨by omega, dy⟩, by omega, by omega⟩, ⟨by omega, by omega⟩, ⟨by omega, by omega, by omega⟩, ⟨⟨trivial, dgn_dig _ _⟩, s1, by simp [dgn]⟩, ⟨⟨⟨trivial, u32s_nameless _⟩, trivial, u32s_nameless _⟩, ⟨⟨u32s_nameless _, by omega⟩, trivial, hvs⟩, trivial, w3⟩, ?_⟩⟩
  rintro ⟨us, qs⟩ ⟨⟨hul, hud, hut⟩, hq⟩
  simp only at hul hud hut hq
  subst hq
  have hXV : nv xs * 2 ^ dsh ys / nv (dvs ys) < 4294967296 ^ dM xs ys := by
    rw [Nat.div_lt_iff_lt_mul f4, Nat.mul_comm (4294967296 ^ _), ← Nat.div_lt_iff_lt_mul (pow_pos32 _)]
    exact (Nat.div_eq_zero_iff_lt f4).1 s2
  have hmod := Nat.mod_lt (nv xs * 2 ^ dsh ys) f4
  have hq1 : trimL (dgn (dM xs ys) (nv xs * 2 ^ dsh ys / nv (dvs ys))) = dg (nv xs / nv ys) := by
    rw [trimL_dgn hXV, f1, scale_div]
  have hr1 : nv (dgn ys.length (nv xs * 2 ^ dsh ys % nv (dvs ys))) / 2 ^ dsh ys = nv xs % nv ys := by
    rw [nv_dgn, Nat.mod_eq_of_lt (Nat.lt_trans hmod f5), f1, scale_mod]
  have e5 : List.take (dM xs ys) (u32s (dgn (dM xs ys) (nv xs * 2 ^ dsh ys / nv (dvs ys)))) = u32s (dgn (dM xs ys) (nv xs * 2 ^ dsh ys / nv (dvs ys))) := by rw [u32s_take, List.take_of_length_le (by rw [dgn_length]; exact Nat.le_refl _)]
  have e6 : List.take ys.length (u32s us) = u32s (dgn ys.length (nv xs * 2 ^ dsh ys % nv (dvs ys))) := by rw [u32s_take, hut]
  simp only [e5, e6, unu_u32s, hq1, hr1, dgn_length]
  exact ⟨⟨⟨u32s_nameless _, Nat.le_refl _⟩, ⟨trivial, trivial⟩, by omega⟩, ⟨by omega, by omega⟩, ⟨⟨u32s_nameless _, by omega⟩, ⟨trivial, trivial⟩, ⟨by omega, dgn_dig _ _⟩, by omega, by omega⟩, ⟨trivial, trivial⟩, trivial, trivial⟩
def ent_gdivA : Ent := fun ds => match ds with
  | [.ro n_xs ys_xs, .ro n_ys ys_ys] => some (.tup [.ro (dg (nv (unu ys_xs) / nv (unu ys_ys))).length (u32s (dg (nv (unu ys_xs) / nv (unu ys_ys)))), .ro (dg (nv (unu ys_xs) % nv (unu ys_ys))).length (u32s (dg (nv (unu ys_xs) % nv (unu ys_ys))))], (ys_ys = u32s (unu ys_ys) ∧ n_ys = (unu ys_ys).length) ∧ (ys_xs = u32s (unu ys_xs) ∧ n_xs = (unu ys_xs).length) ∧ dHyp2 (unu ys_xs) (unu ys_ys) ∧ nv (unu ys_ys) ≤ nv (unu ys_xs))
  | _ => none
theorem ent_gdivA_ok : EntOk Try.prog 55 ent_gdivA := by
  intro ds d c h hc; unfold ent_gdivA at h; split at h
  · rename_i n_xs ys_xs n_ys ys_ys; obtain ⟨rfl, rfl⟩ := pair_inj h
    obtain ⟨⟨h1, h2⟩, hc⟩ := hc; subst h2; generalize (unu ys_ys) = ys at *; subst h1
    obtain ⟨⟨h1, h2⟩, hc⟩ := hc; subst h2; generalize (unu ys_xs) = xs at *; subst h1
    exact gdivA_pure xs ys hc
  · cases h
theorem gdiv_pure (xs ys : List Nat) (hpre : dHyp xs ys) : PureJ Try.prog 55 [.ro xs.length (u32s xs), .ro ys.length (u32s ys)] (.tup [.ro (dg (nv xs / nv ys)).length (u32s (dg (nv xs / nv ys))), .ro (dg (nv xs % nv ys)).length (u32s (dg (nv xs % nv ys)))]) := by
  rcases Nat.lt_or_ge (nv xs) (nv ys) with h | h
  · exact gdivB_pure xs ys ⟨hpre, h⟩
  · by_cases h1 : ys.length = 1
    · exact gdivC_pure xs ys ⟨hpre, h, h1⟩
    · refine gdivA_pure xs ys ⟨⟨hpre, ?_, ?_⟩, h⟩
      · obtain ⟨⟨_, gx, gy⟩, h0⟩ := hpre
        rcases Nat.eq_zero_or_pos ys.length with h2 | h2
        · have : ys = [] := List.eq_nil_of_length_eq_zero h2
          subst this
          rw [nv] at h0; omega
        · omega
      · obtain ⟨⟨_, gx, gy⟩, h0⟩ := hpre
        have := dg_len_mono h
        rw [← gx, ← gy] at this
        exact this
def ent_gdiv : Ent := fun ds => match ds with
  | [.ro n1 y1, .ro n2 y2] => some (.tup [.ro (dg (nv (unu y1) / nv (unu y2))).length (u32s (dg (nv (unu y1) / nv (unu y2)))), .ro (dg (nv (unu y1) % nv (unu y2))).length (u32s (dg (nv (unu y1) % nv (unu y2))))],
      ((y1 = u32s (unu y1) ∧ n1 = (unu y1).length) ∧ (y2 = u32s (unu y2) ∧ n2 = (unu y2).length)) ∧ dHyp (unu y1) (unu y2))
  | _ => none
theorem ent_gdiv_ok : EntOk Try.prog 55 ent_gdiv := by
  intro ds d c h hc; unfold ent_gdiv at h; split at h
  · rename_i n1 y1 n2 y2; obtain ⟨rfl, rfl⟩ := pair_inj h
    obtain ⟨⟨⟨h1, h2⟩, h3, h4⟩, hc⟩ := hc
    subst h2; subst h4
    generalize unu y1 = xs at *
    generalize unu y2 = ys at *
    subst h1; subst h3
    exact gdiv_pure xs ys hc
  · cases h
theorem dvg_val {xn yn : Bool} {xs ys L : List Nat} {Q R : Nat} (hY : 0 < nv ys) (hL : trimL L = dg Q) (hR : R < nv ys) (hQ : (dg Q).length ≤ 400) (hy : (dg R).length ≤ 400)
    (h : (if xn then -(nv xs : Int) else nv xs) = (Q : Int) * (if xn then -1 else 1) * nv ys + R) :
    resG (madeN (xn != yn) L) (dg Q) = ((dvS true false (iv xn xs) (iv yn ys)).1.1, (dvS true false (iv xn xs) (iv yn ys)).1.2, 0) ∧ madeN false (dg R) = (dvS true false (iv xn xs) (iv yn ys)).2.1.1 ∧ dg R = (dvS true false (iv xn xs) (iv yn ys)).2.1.2 := by
  obtain ⟨e1, e2⟩ := ediv_at (yn := yn) hY hR h
  have hv : iv xn xs / iv yn ys = (if (xn != yn) then -(Q : Int) else Q) := e1
  have hr : iv xn xs % iv yn ys = (R : Int) := e2
  have m1 := madeN_of hL (xn != yn)
  have m2 := madeN_dg false R
  have d1 : decide (iv xn xs / iv yn ys < 0) = ((xn != yn) && decide (Q ≠ 0)) := by
    rw [hv]; clear hr hv e1 e2 h m1 m2; cases (xn != yn) <;> rw [Bool.eq_iff_iff] <;> simp <;> omega
  have d2 : ofL (iv xn xs / iv yn ys) = dg Q := by rw [hv]; unfold ofL; cases (xn != yn) <;> simp
  have d3 : ofL (iv xn xs % iv yn ys) = dg R := by rw [hr]; unfold ofL; simp
  unfold resG dvS
  simp only [hQ, decide_true, cond_true, cond_false, d1, d2, d3, m1, m2.1, Bool.false_and, and_self]
theorem gDivide_pure (xn : Bool) (xs : List Nat) (yn : Bool) (ys : List Nat) (hpre : LenOk xs ∧ LenOk ys) : PureJ Try.prog 14 [.agg [.v (.bool xn), .ro xs.length (u32s xs)], .agg [.v (.bool yn), .ro ys.length (u32s ys)]] (d_dv (dvS (validL xn xs && validL yn ys) (decide (nv ys = 0)) (iv xn xs) (iv yn ys))) := by
  refine pureJ_of_vcpN (call := (addPure 21 ent_Valid (addPure 55 ent_gdiv (addPure 56 ent_trim (addPure 57 ent_plus (addPure 58 ent_minus (addPure 60 ent_made (addPure 59 ent_gresult noCalls)))))))) (lp := fun _ => none) (N := 10) T_ok mixed (addPure_ok ent_Valid_ok (addPure_ok ent_gdiv_ok (addPure_ok ent_trim_ok (addPure_ok ent_plus_ok (addPure_ok ent_minus_ok (addPure_ok ent_made_ok (addPure_ok ent_gresult_ok noCalls_ok))))))) Try.func14 rfl (by decide) (by kernel_rfl) (by kernel_rfl) (LpAllP.none _) (by (simp [NamelessL, Nameless, d_dv, d_int, u32s_nameless]; done)) (by (simp [NamelessL, Nameless, d_dv, d_int, u32s_nameless]; done)) ?_
  refine of_eq (B := letI z7 := (dvS ((validL xn xs) && (validL yn ys)) (Decidable.decide ((nv ys) = (0 : Nat))) (iv xn xs) (iv yn ys)); letI z42 := (Prod.snd (Prod.fst z7)); letI z31 := (Prod.fst (Prod.snd z7)); letI z0 := (D.tup [(D.agg [(D.v (Value.bool (Prod.fst (Prod.fst z7)))), (D.ro (List.length z42) (u32s z42))]), (D.agg [(D.v (Value.bool (Prod.fst z31))), (D.ro (List.length (Prod.snd z31)) (u32s (Prod.snd z31)))]), (D.v (Value.int IntKind.i64 (Prod.snd (Prod.snd z7))))]); letI z46 := ((0 : Nat) < (2 : Nat)); letI z19 := (z46 ∧ (IsBool (D.v (Value.bool xn)))); letI z28 := (z46 ∧ (IsBool (D.v (Value.bool yn)))); letI z16 := (unu (u32s xs)); letI z10 := (unu (u32s ys)); letI z29 := (dg ((nv z16) / (nv z10))); letI z2 := (unu (u32s z29)); letI z38 := List.length z2; letI z20 := (((u32s z29) = (u32s z2)) ∧ ((List.length z29) = z38)); letI z22 := (1000000 : Nat); letI z26 := (unu (u32s (trimL z2))); letI z9 := ((2 : Nat) ≤ (2 : Nat)); letI z5 := (((2 : Nat) = (2 : Nat)) ∧ z9); letI z15 := (resG (madeN (!(xn == yn)) z2) z26); letI z35 := Prod.snd z15; letI z21 := (z9 ∧ (z9 ∧ True)); letI z40 := (True ∧ (True ∧ True)); letI z8 := (z40 ∧ (z40 ∧ (True ∧ True))); letI z6 := (D.agg [(D.v (Value.bool Bool.false)), (D.ro (0 : Nat) ([] : List D))]); letI z39 := (dg ((nv z16) % (nv z10))); letI z3 := (u32s z39); letI z27 := (List.length (unu z3)); letI z12 := ((z3 = (u32s (unu z3))) ∧ ((List.length z39) = z27)); letI z43 := (z12 ∧ (z27 ≤ z22)); letI z45 := Bool.true = Bool.true; letI z37 := (List.length (trimL (unu z3))); letI z33 := (D.v (Value.int IntKind.i64 (0 : Int))); letI z1 := (True ∧ (z19 ∧ (True ∧ (z28 ∧ (True ∧ (True ∧ ((z20 ∧ (z38 ≤ z22)) ∧ (((((u32s (trimL z2)) = (u32s z26)) ∧ ((List.length (trimL z2)) = (List.length z26))) ∧ ((List.length z26) ≤ z22)) ∧ (True ∧ (True ∧ (True ∧ (True ∧ (z5 ∧ (True ∧ (True ∧ (True ∧ (pcond ((Prod.snd z35) != (0 : Int)) (True ∧ (True ∧ (True ∧ (z5 ∧ (z5 ∧ (True ∧ (z21 ∧ (z8 ∧ ((D.tup [z6, z6, (D.v (Value.int IntKind.i64 (Prod.snd z35)))]) = z0))))))))) (z9 ∧ (True ∧ (z43 ∧ (z5 ∧ (z5 ∧ (True ∧ (z45 ∧ (z21 ∧ (z8 ∧ ((D.tup [(D.agg [(D.v (Value.bool (Prod.fst z15))), (D.ro (List.length (Prod.fst z35)) (u32s (Prod.fst z35)))]), (D.agg [(D.v (Value.bool (madeN Bool.false (unu z3)))), (D.ro z37 (u32s (trimL (unu z3))))]), z33]) = z0))))))))))))))))))))))))))); letI z11 := (D.v (Value.int IntKind.u32 (1 : Int))); letI z32 := (plusL z2 (unu [z11])); letI z4 := (unu (u32s z32)); letI z36 := (dg ((nv z10) - (nv (unu z3)))); letI z13 := (u32s z36); letI z25 := (unu (u32s (trimL z4))); letI z14 := (resG (madeN (!(xn == yn)) z4) z25); letI z17 := (True ∧ (True ∧ (z5 ∧ (z5 ∧ (True ∧ (z21 ∧ (z8 ∧ ((D.tup [z6, z6, (D.v (Value.int IntKind.i64 (1 : Int)))]) = z0)))))))); letI z30 := List.length z10; letI z18 := (((u32s ys) = (u32s z10)) ∧ ((List.length ys) = z30)); letI z23 := (((u32s xs) = (u32s z16)) ∧ ((List.length xs) = (List.length z16))); letI z24 := ((1 : Nat) < (2 : Nat)); letI z34 := Prod.snd z14; letI z41 := (400000 : Nat); letI z44 := (List.length (unu z13)); letI z47 := (1000000000000 : Nat); (True ∧ (True ∧ (True ∧ (True ∧ (True ∧ (z9 ∧ ((z23 ∧ ((List.length z16) ≤ z47)) ∧ (True ∧ (True ∧ (pcond (!(validL xn z16)) (True ∧ z17) (z9 ∧ ((z18 ∧ (z30 ≤ z47)) ∧ (True ∧ (True ∧ (pcond (!(validL yn z10)) z17 (True ∧ (z24 ∧ (True ∧ (True ∧ (pcond ((((List.length ys) : Nat) : Int) == (0 : Int)) (True ∧ (True ∧ (z5 ∧ (z5 ∧ (True ∧ (z21 ∧ (z8 ∧ ((D.tup [z6, z6, (D.v (Value.int IntKind.i64 (21 : Int)))]) = z0)))))))) (True ∧ (z24 ∧ (True ∧ (z24 ∧ (((z23 ∧ z18) ∧ (dHyp z16 z10)) ∧ (True ∧ (True ∧ (True ∧ (True ∧ (True ∧ (True ∧ (z19 ∧ (True ∧ (pcond xn (True ∧ (z43 ∧ (True ∧ (True ∧ (True ∧ (pcond (Decidable.decide ((0 : Int) < ((z37 : Nat) : Int))) (True ∧ ((((1 : Nat) ≤ (16777216 : Nat)) ∧ ((1 : Nat) ≤ (9223372036854775807 : Nat))) ∧ (((True ∧ (((NamelessL [z11]) ∧ (((0 : Nat) < (1 : Nat)) ∧ ((1 : Nat) ≤ (1 : Nat)))) ∧ True)) ∧ ((([z11] = (u32s (unu [z11]))) ∧ ((1 : Nat) = (1 : Nat))) ∧ (z20 ∧ ((z38 ≤ z41) ∧ (((1 : Nat) ≤ z41) ∧ ((Dig z2) ∧ (Dig (unu [z11])))))))) ∧ (True ∧ (True ∧ (z24 ∧ (True ∧ ((z12 ∧ (z18 ∧ (((z30 ≤ z41) ∧ ((z27 ≤ z30) ∧ ((Dig z10) ∧ (Dig (unu z3))))) ∧ ((nv (unu z3)) ≤ (nv z10))))) ∧ (True ∧ (True ∧ (z19 ∧ (True ∧ (z28 ∧ (True ∧ (True ∧ (((((u32s z32) = (u32s z4)) ∧ ((List.length z32) = (List.length z4))) ∧ ((List.length z4) ≤ z22)) ∧ (((((u32s (trimL z4)) = (u32s z25)) ∧ ((List.length (trimL z4)) = (List.length z25))) ∧ ((List.length z25) ≤ z22)) ∧ (True ∧ (True ∧ (True ∧ (True ∧ (z5 ∧ (True ∧ (True ∧ (True ∧ (pcond ((Prod.snd z34) != (0 : Int)) (True ∧ (True ∧ (True ∧ (z5 ∧ (z5 ∧ (True ∧ (z21 ∧ (z8 ∧ ((D.tup [z6, z6, (D.v (Value.int IntKind.i64 (Prod.snd z34)))]) = z0))))))))) (z9 ∧ (True ∧ ((((z13 = (u32s (unu z13))) ∧ ((List.length z36) = z44)) ∧ (z44 ≤ z22)) ∧ (z5 ∧ (z5 ∧ (True ∧ (z45 ∧ (z21 ∧ (z8 ∧ ((D.tup [(D.agg [(D.v (Value.bool (Prod.fst z14))), (D.ro (List.length (Prod.fst z34)) (u32s (Prod.fst z34)))]), (D.agg [(D.v (Value.bool (madeN Bool.false (unu z13)))), (D.ro (List.length (trimL (unu z13))) (u32s (trimL (unu z13))))]), z33]) = z0)))))))))))))))))))))))))))))))))))) z1)))))) (True ∧ z1)))))))))))))))))))))))))))))))))))) (by kernel_rfl) ?_
  simp only [true_and, and_true, and_self, IsInt_lit, IsBool_lit, IsStr_lit, Bool.not_eq_true', Bool.not_eq_false', Bool.not_true, Bool.not_false, Int.reduceLE, Int.reduceLT, Int.reduceNeg, Nat.le_refl, Int.le_refl, Nat.reduceLT, Nat.reduceLeDiff, Nat.reduceEqDiff, D.v.injEq, D.tup.injEq, D.agg.injEq, D.ro.injEq, List.cons.injEq, Value.int.injEq, Value.bool.injEq, pcond_true, pcond_false, NamelessL, Nameless, Nat.reduceMul, Nat.reduceAdd, Nat.zero_add, Int.toNat_natCast, unu_u32s]
  obtain ⟨⟨lx, dx⟩, ly, dy⟩ := hpre
  have hone : unu [D.v (Value.int IntKind.u32 1)] = [1] := unu_u32s [1]
  refine ⟨by omega, pcond_intro (fun h => ?_) (fun h => ⟨by omega, pcond_intro (fun h2 => ?_) (fun h2 => pcond_intro (fun h3 => ?_) (fun h3 => ?_))⟩)⟩
  · simp only [Bool.not_eq_true'] at h; simp [dvS, h, u32s]
  · simp only [Bool.not_eq_true', Bool.not_eq_false'] at h h2; simp [dvS, h, h2, u32s]
  · simp only [Bool.not_eq_false', beq_iff_eq] at h h2 h3
    have : ys = [] := List.eq_nil_of_length_eq_zero (by omega)
    subst this
    simp [dvS, h, h2, u32s, nv]
  · simp only [Bool.not_eq_false', beq_eq_false_iff_ne, ne_eq] at h h2 h3
    obtain ⟨gx, lx4⟩ := valid_good dx h
    obtain ⟨gy, ly4⟩ := valid_good dy h2
    have hY : 0 < nv ys := by
      rcases Nat.eq_zero_or_pos (nv ys) with h0 | h0
      · have e := gy.1
        rw [h0, dg_zero] at e
        rw [e] at h3; simp at h3
      · exact h0
    have hY0 : decide (nv ys = 0) = false := by simp; omega
    have hm := Nat.mod_lt (nv xs) hY
    have hdm := Nat.div_add_mod (nv xs) (nv ys)
    obtain ⟨l1, l2⟩ := dv_len (X := nv xs) hY
    have lrem : (dg (nv xs % nv ys)).length ≤ ys.length := by
      have := dg_len_mono (Nat.le_of_lt hm)
      rwa [← gy.1] at this
    rw [← gx.1] at l1 l2
    have hdv : ∀ (L : List Nat) (Q R : Nat), trimL L = dg Q → R < nv ys → (dg Q).length ≤ 400 → (dg R).length ≤ 400 → (if xn then -(nv xs : Int) else nv xs) = (Q : Int) * (if xn then -1 else 1) * nv ys + R →
        resG (madeN (xn != yn) L) (dg Q) = ((dvS true false (iv xn xs) (iv yn ys)).1.1, (dvS true false (iv xn xs) (iv yn ys)).1.2, 0) ∧ madeN false (dg R) = (dvS true false (iv xn xs) (iv yn ys)).2.1.1 ∧ dg R = (dvS true false (iv xn xs) (iv yn ys)).2.1.2 := fun L Q R h0 h1 h2 h3 h4 => dvg_val hY h0 h1 h2 h3 h4
    have hpos : ((nv xs : Nat) : Int) = ((nv xs / nv ys : Nat) : Int) * (nv ys : Int) + ((nv xs % nv ys : Nat) : Int) := by
      rw [← Int.natCast_mul, Nat.mul_comm (nv xs / nv ys)]; omega
    have hnb : (!xn == yn) = (xn != yn) := rfl
    have tdg : ∀ v, trimL (dg v) = dg v := fun v => (madeN_dg false v).2
    have tpl : trimL (plusL (dg (nv xs / nv ys)) [1]) = dg (nv xs / nv ys + 1) := by
      rw [trimL_plus (dg_dig _) (by simp [Dig]), nv_dg]; simp [nv]
    have lpl : (plusL (dg (nv xs / nv ys)) [1]).length ≤ 1000 := by
      have := plusL_len (dg (nv xs / nv ys)) [1]
      unfold plusM at this
      simp only [List.length_singleton] at this
      omega
    simp only [h, h2, hY0, Bool.and_self, hnb, nv_dg, hone, tdg, tpl]
    refine ⟨⟨⟨⟨by omega, by omega⟩, gx.1, gy.1⟩, hY⟩, pcond_intro (fun h4 => ⟨by omega, pcond_intro (fun h5 => ?_) (fun h5 => ?_)⟩) (fun h4 => ?_)⟩
    · simp only [decide_eq_true_eq] at h5
      have hR : nv xs % nv ys ≠ 0 := fun e => by rw [e, dg_zero] at h5; simp at h5
      have l4 := dg_len_mono (show nv ys - nv xs % nv ys ≤ nv ys by omega)
      rw [← gy.1] at l4
      obtain ⟨v1, v3, v4⟩ := hdv (plusL (dg (nv xs / nv ys)) [1]) (nv xs / nv ys + 1) (nv ys - nv xs % nv ys) tpl (by omega) (Nat.le_trans (l2 hR) lx4) (Nat.le_trans l4 ly4) (by
        subst h4
        simp only [if_true]
        have : ((nv xs / nv ys + 1 : Nat) : Int) * -1 * (nv ys : Int) = -(((nv xs / nv ys : Nat) : Int) * (nv ys : Int)) - (nv ys : Int) := by
          rw [Int.natCast_add]; exact neg_aux2 _ _
        rw [this]; omega)
      have l3 := l2 hR
      rw [v1, v3]
      refine ⟨⟨rfl, by omega, dg_dig _, by simp [Dig]⟩, ⟨⟨by omega, lrem, dy, dg_dig _⟩, by omega⟩, by omega, by omega, ?_⟩
      rw [show ((0 : Int) != 0) = false from rfl, pcond_false]
      refine ⟨by omega, ⟨rfl, rfl, rfl⟩, ⟨rfl, ?_⟩, rfl⟩
      rw [← v4]; exact ⟨rfl, rfl⟩
    · simp only [decide_eq_false_iff_not] at h5
      have hR : nv xs % nv ys = 0 := by
        refine Classical.byContradiction fun hne => ?_
        rw [dg_pos hne] at h5
        simp at h5
      rw [hR] at hpos ⊢
      obtain ⟨v1, v3, v4⟩ := hdv (dg (nv xs / nv ys)) (nv xs / nv ys) 0 (tdg _) hY (Nat.le_trans l1 lx4) (by rw [dg_zero]; simp) (by
        subst h4
        simp only [if_true]
        rw [hpos]
        exact neg_aux _ _)
      rw [v1, v3]
      refine ⟨by omega, by omega, ?_⟩
      rw [show ((0 : Int) != 0) = false from rfl, pcond_false]
      refine ⟨by rw [dg_zero]; simp, ⟨rfl, rfl, rfl⟩, ⟨rfl, ?_⟩, rfl⟩
      rw [← v4]; exact ⟨rfl, rfl⟩
    · obtain ⟨v1, v3, v4⟩ := hdv (dg (nv xs / nv ys)) (nv xs / nv ys) (nv xs % nv ys) (tdg _) hm (Nat.le_trans l1 lx4) (Nat.le_trans lrem ly4) (by
        subst h4
        simp only [Bool.false_eq_true, if_false, Int.mul_one]
        exact hpos)
      rw [v1, v3]
      refine ⟨by omega, by omega, ?_⟩
      rw [show ((0 : Int) != 0) = false from rfl, pcond_false]
      refine ⟨by omega, ⟨rfl, rfl, rfl⟩, ⟨rfl, ?_⟩, rfl⟩
      rw [← v4]; exact ⟨rfl, rfl⟩
def ent_gDivide : Ent := fun ds => match ds with
  | [.agg [.v (.bool xn), .ro n_xs ys_xs], .agg [.v (.bool yn), .ro n_ys ys_ys]] => some (d_dv (dvS (validL xn (unu ys_xs) && validL yn (unu ys_ys)) (decide (nv (unu ys_ys) = 0)) (iv xn (unu ys_xs)) (iv yn (unu ys_ys))), (ys_ys = u32s (unu ys_ys) ∧ n_ys = (unu ys_ys).length) ∧ (ys_xs = u32s (unu ys_xs) ∧ n_xs = (unu ys_xs).length) ∧ LenOk (unu ys_xs) ∧ LenOk (unu ys_ys))
  | _ => none
theorem ent_gDivide_ok : EntOk Try.prog 14 ent_gDivide := by
  intro ds d c h hc; unfold ent_gDivide at h; split at h
  · rename_i xn n_xs ys_xs yn n_ys ys_ys; obtain ⟨rfl, rfl⟩ := pair_inj h
    obtain ⟨⟨h1, h2⟩, hc⟩ := hc; subst h2; generalize (unu ys_ys) = ys at *; subst h1
    obtain ⟨⟨h1, h2⟩, hc⟩ := hc; subst h2; generalize (unu ys_xs) = xs at *; subst h1
    exact gDivide_pure _ xs _ ys hc
  · cases h
end Go.Proofs.Ythnhfkpihbjddaa
end
section
namespace Go.Proofs.Ythnhfkpihbjddaa
set_option linter.unusedVariables false
set_option linter.unusedSimpArgs false
theorem lehmer_q {S U V x y l h k m q : Int} (hS : 0 < S) (h1 : (x + l) * S ≤ U) (h2 : U ≤ (x + h) * S) (h3 : (y + k) * S ≤ V) (h4 : V ≤ (y + m) * S) (hk : 0 < y + k) (hm : 0 < y + m) (hVU : V ≤ U)
    (hq1 : q = (x + h).tdiv (y + k)) (hq2 : q = (x + l).tdiv (y + m)) : 1 ≤ q ∧ 0 < V ∧ q * V ≤ U ∧ U < (q + 1) * V ∧ q * (y + m) ≤ x + l ∧ x + h < (q + 1) * (y + k) := by
  have hV0 : 0 < (y + k) * S := Int.mul_pos hk hS
  have hV : 0 < V := by omega
  have hxh : 0 < x + h := by
    refine Int.lt_of_not_ge fun hle => ?_
    have := Int.mul_le_mul_of_nonneg_right hle (Int.le_of_lt hS)
    rw [Int.zero_mul] at this
    omega
  have q1 : q = (x + h) / (y + k) := by rw [hq1, Int.tdiv_eq_ediv_of_nonneg (by omega)]
  have hlt : x + h < (q + 1) * (y + k) := by
    rw [q1]
    have := Int.lt_ediv_add_one_mul_self (x + h) hk
    exact this
  have hq0 : 1 ≤ q := by
    refine Int.le_of_not_gt fun hlt2 => ?_
    have h0 : 0 ≤ q := by rw [q1]; exact Int.ediv_nonneg (by omega) (by omega)
    have : q = 0 := by omega
    rw [this, Int.zero_add, Int.one_mul] at hlt
    have := Int.mul_le_mul_of_nonneg_right (show x + h ≤ y + k - 1 by omega) (Int.le_of_lt hS)
    rw [Int.sub_mul, Int.one_mul] at this
    omega
  have hxl : 0 ≤ x + l := by
    refine Int.le_of_not_gt fun hlt2 => ?_
    have : (x + l).tdiv (y + m) ≤ 0 := by
      have := Int.tdiv_nonneg (a := -(x + l)) (b := y + m) (by omega) (by omega)
      rw [Int.neg_tdiv] at this
      omega
    omega
  have q2 : q = (x + l) / (y + m) := by rw [hq2, Int.tdiv_eq_ediv_of_nonneg hxl]
  have hle : q * (y + m) ≤ x + l := by rw [q2]; exact Int.ediv_mul_le _ (by omega)
  refine ⟨hq0, hV, ?_, ?_, hle, hlt⟩
  · have a1 := Int.mul_le_mul_of_nonneg_left h4 (show 0 ≤ q by omega)
    have a2 := Int.mul_le_mul_of_nonneg_right hle (Int.le_of_lt hS)
    rw [Int.mul_assoc] at a2
    omega
  · have a1 := Int.mul_le_mul_of_nonneg_left h3 (show 0 ≤ q + 1 by omega)
    have a2 := Int.mul_le_mul_of_nonneg_right (show x + h ≤ (q + 1) * (y + k) - 1 by omega) (Int.le_of_lt hS)
    rw [Int.sub_mul, Int.mul_assoc, Int.one_mul] at a2
    omega
structure Leh (u v S x0 y0 x y a b c d : Int) : Prop where
  hx : x = a * x0 + b * y0
  hy : y = c * x0 + d * y0
  sign : ((0 ≤ a ∧ b ≤ 0) ∧ (c ≤ 0 ∧ 0 ≤ d) ∧ a * d - b * c = 1) ∨ ((a ≤ 0 ∧ 0 ≤ b) ∧ (0 ≤ c ∧ d ≤ 0) ∧ a * d - b * c = -1)
  ba : (-1073741824 < a ∧ a < 1073741824) ∧ -1073741824 < b ∧ b < 1073741824
  bc : (-1073741824 < c ∧ c < 1073741824) ∧ -1073741824 < d ∧ d < 1073741824
  V0 : 0 ≤ c * u + d * v
  VU : c * u + d * v ≤ a * u + b * v
  Uu : a * u + b * v ≤ u
  gcd : Int.gcd (a * u + b * v) (c * u + d * v) = Int.gcd u v
  first : (b = 0 ∧ c * u + d * v = v) ∨ c * u + d * v < v
structure Base (u v S x0 y0 : Int) : Prop where
  pos : 0 < S
  hu : x0 * S ≤ u ∧ u < x0 * S + S
  hv : y0 * S ≤ v ∧ v < y0 * S + S
  vu : 0 ≤ v ∧ v ≤ u
  x0 : 0 ≤ y0 ∧ x0 < 4611686018427387904
theorem cmp_mul {a b S : Int} (hS : 0 < S) (h : a * S < b * S + S) : a ≤ b := by
  refine Int.le_of_not_gt fun hlt => ?_
  have := Int.mul_le_mul_of_nonneg_right (show b + 1 ≤ a by omega) (Int.le_of_lt hS)
  rw [Int.add_mul, Int.one_mul] at this
  omega
theorem Base.y0x0 {u v S x0 y0 : Int} (h : Base u v S x0 y0) : y0 ≤ x0 := by
  obtain ⟨hS, hu, hv, hvu, h0⟩ := h
  exact cmp_mul hS (by omega)
theorem between {u v S x0 y0 a b : Int} (hu : x0 * S ≤ u ∧ u < x0 * S + S) (hv : y0 * S ≤ v ∧ v < y0 * S + S) (ha : 0 ≤ a) (hb : b ≤ 0) : (a * x0 + b * y0 + b) * S ≤ a * u + b * v ∧ a * u + b * v ≤ (a * x0 + b * y0 + a) * S := by
  have a1 := Int.mul_le_mul_of_nonneg_left hu.1 ha
  have a2 := Int.mul_le_mul_of_nonneg_left (show u ≤ x0 * S + S by omega) ha
  have b1 := Int.mul_le_mul_of_nonneg_left hv.1 (show 0 ≤ -b by omega)
  have b2 := Int.mul_le_mul_of_nonneg_left (show v ≤ y0 * S + S by omega) (show 0 ≤ -b by omega)
  constructor
  · grind
  · grind
theorem leh_start {u v S x0 y0 : Int} (h : Base u v S x0 y0) : Leh u v S x0 y0 x0 y0 1 0 0 1 := by
  obtain ⟨hS, hu, hv, hvu, h0⟩ := h
  exact ⟨by omega, by omega, .inl ⟨by omega, by omega, by omega⟩, by omega, by omega, by omega, by omega, by omega, by simp, .inl ⟨rfl, by omega⟩⟩
theorem leh_lhkm {u v S x0 y0 x y a b c d : Int} (hB : Base u v S x0 y0) (h : Leh u v S x0 y0 x y a b c d) :
    ∃ l h k m : Int, ((l = b ∧ h = a ∧ k = c ∧ m = d) ∨ (l = a ∧ h = b ∧ k = d ∧ m = c)) ∧ ((l ≤ 0 ∧ 0 ≤ h) ∧ k ≤ 0 ∧ 0 ≤ m) ∧
      ((x + l) * S ≤ a * u + b * v ∧ a * u + b * v ≤ (x + h) * S) ∧ ((y + k) * S ≤ c * u + d * v ∧ c * u + d * v ≤ (y + m) * S) := by
  obtain ⟨hx, hy, sg, ba, bc, V0, VU, Uu, g, f⟩ := h
  rcases sg with ⟨⟨s1, s2⟩, ⟨s3, s4⟩, _⟩ | ⟨⟨s1, s2⟩, ⟨s3, s4⟩, _⟩
  · have k1 := between hB.hu hB.hv s1 s2
    have k2 := between hB.hv hB.hu s4 s3
    refine ⟨b, a, c, d, .inl ⟨rfl, rfl, rfl, rfl⟩, ⟨⟨s2, s1⟩, s3, s4⟩, ?_, ?_⟩
    · rw [hx]; exact k1
    · rw [hy, Int.add_comm (c * x0), Int.add_comm (c * u)]; exact k2
  · have k1 := between hB.hv hB.hu s2 s1
    have k2 := between hB.hu hB.hv s3 s4
    refine ⟨a, b, d, c, .inr ⟨rfl, rfl, rfl, rfl⟩, ⟨⟨s1, s2⟩, s4, s3⟩, ?_, ?_⟩
    · rw [hx, Int.add_comm (a * x0), Int.add_comm (a * u)]; exact k1
    · rw [hy]; exact k2
theorem leh_facts {u v S x0 y0 x y a b c d : Int} (hB : Base u v S x0 y0) (h : Leh u v S x0 y0 x y a b c d) :
    (-1073741824 < x ∧ x < 4611686018427387904 + 1073741824) ∧ (-1073741824 < y ∧ y < 4611686018427387904 + 1073741824) := by
  obtain ⟨l, h', k, m, e, ⟨⟨l0, h0⟩, k0, m0⟩, ⟨u1, u2⟩, v1, v2⟩ := leh_lhkm hB h
  obtain ⟨hx, hy, sg, ba, bc, V0, VU, Uu, g, f⟩ := h
  have hS := hB.pos
  have hu := hB.hu
  have hx0 := hB.x0
  have low : ∀ z W : Int, 0 ≤ W → W ≤ z * S → 0 ≤ z := fun z W h0 hW => by
    refine Int.le_of_not_gt fun hlt => ?_
    have := Int.mul_lt_mul_of_pos_right hlt hS
    rw [Int.zero_mul] at this
    omega
  have a1 := cmp_mul (a := x + l) (b := x0) hS (by omega)
  have a2 := cmp_mul (a := y + k) (b := x0) hS (by omega)
  have a3 := low (x + h') _ (by omega) u2
  have a4 := low (y + m) _ V0 v2
  rcases e with ⟨rfl, rfl, rfl, rfl⟩ | ⟨rfl, rfl, rfl, rfl⟩ <;> omega
theorem leh_ov {u v S x0 y0 x y a b c d q : Int} (hB : Base u v S x0 y0) (h : Leh u v S x0 y0 x y a b c d) (hc : 0 < y + c) (hd : 0 < y + d) (hq1 : q = (x + a).tdiv (y + c)) (hq2 : q = (x + b).tdiv (y + d)) :
    (1 ≤ q ∧ 0 < c * u + d * v ∧ q * (c * u + d * v) ≤ a * u + b * v ∧ a * u + b * v < (q + 1) * (c * u + d * v)) ∧ (0 < y ∧ x - q * y < y) ∧ (0 ≤ q * y ∧ q * y ≤ 4611686018427387904) ∧ (-4611686018427387904 ≤ q * c ∧ q * c ≤ 4611686018427387904) ∧ -4611686018427387904 ≤ q * d ∧ q * d ≤ 4611686018427387904 := by
  obtain ⟨l, h', k, m, e, ⟨⟨l0, h0⟩, k0, m0⟩, ⟨u1, u2⟩, v1, v2⟩ := leh_lhkm hB h
  have hf := leh_facts hB h
  obtain ⟨hx, hy, sg, ba, bc, V0, VU, Uu, g, f⟩ := h
  have hS := hB.pos
  have hu := hB.hu
  have hx0 := hB.x0
  have hyx := hB.y0x0
  have a1 := cmp_mul (a := x + l) (b := x0) hS (by omega)
  have key : 1 ≤ q ∧ 0 < c * u + d * v ∧ q * (c * u + d * v) ≤ a * u + b * v ∧ a * u + b * v < (q + 1) * (c * u + d * v) ∧ q * (y + m) ≤ x + l ∧ x + h' < (q + 1) * (y + k) := by
    rcases e with ⟨rfl, rfl, rfl, rfl⟩ | ⟨rfl, rfl, rfl, rfl⟩
    · exact lehmer_q hS u1 u2 v1 v2 hc hd VU hq1 hq2
    · exact lehmer_q hS u1 u2 v1 v2 hd hc VU hq2 hq1
  obtain ⟨q1, q2, q3, q4, q5, q6⟩ := key
  have hy0 : 0 < y := by rcases e with ⟨rfl, rfl, rfl, rfl⟩ | ⟨rfl, rfl, rfl, rfl⟩ <;> omega
  have hqm : 0 ≤ q * m := Int.mul_nonneg (by omega) m0
  have hqk : 0 ≤ q * -k := Int.mul_nonneg (by omega) (by omega)
  have hqy : 0 ≤ q * y := Int.mul_nonneg (by omega) (by omega)
  rw [Int.mul_add] at q5
  rw [Int.add_mul, Int.one_mul, Int.mul_add] at q6
  rw [Int.mul_neg] at hqk
  have hqx : q ≤ x := by
    have := Int.mul_le_mul_of_nonneg_left (show 1 ≤ y by omega) (show 0 ≤ q by omega)
    rw [Int.mul_one] at this
    omega
  have hbd : ∀ z : Int, 0 ≤ z → z * x ≤ x0 → q * z ≤ 4611686018427387904 := fun z h1 h2 => by
    have := Int.mul_le_mul_of_nonneg_right hqx h1
    rw [Int.mul_comm x z] at this
    omega
  refine ⟨⟨q1, q2, q3, q4⟩, ⟨hy0, by omega⟩, ⟨hqy, by omega⟩, ?_⟩
  rcases sg with ⟨⟨s1, s2⟩, ⟨s3, s4⟩, dt⟩ | ⟨⟨s1, s2⟩, ⟨s3, s4⟩, dt⟩
  · have e1 : d * x - b * y = x0 := by
      have : (a * d - b * c) * x0 = x0 := by rw [dt, Int.one_mul]
      rw [hx, hy]; grind
    have e2 : a * y - c * x = y0 := by
      have : (a * d - b * c) * y0 = y0 := by rw [dt, Int.one_mul]
      rw [hx, hy]; grind
    have n1 := Int.mul_nonneg (show 0 ≤ -b by omega) (Int.le_of_lt hy0)
    have n2 := Int.mul_nonneg s1 (Int.le_of_lt hy0)
    rw [Int.neg_mul] at n1
    have g1 := hbd d s4 (by omega)
    have g2 := hbd (-c) (by omega) (by rw [Int.neg_mul]; omega)
    have g3 := Int.mul_nonneg (show 0 ≤ q by omega) s4
    have g4 := Int.mul_nonneg (show 0 ≤ q by omega) (show 0 ≤ -c by omega)
    rw [Int.mul_neg] at g2 g4
    omega
  · have e1 : b * y - d * x = x0 := by
      have : (a * d - b * c) * x0 = -x0 := by rw [dt]; omega
      rw [hx, hy]; grind
    have e2 : c * x - a * y = y0 := by
      have : (a * d - b * c) * y0 = -y0 := by rw [dt]; omega
      rw [hx, hy]; grind
    have n1 := Int.mul_nonneg s2 (Int.le_of_lt hy0)
    have n2 := Int.mul_nonneg (show 0 ≤ -a by omega) (Int.le_of_lt hy0)
    rw [Int.neg_mul] at n2
    have g1 := hbd (-d) (by omega) (by rw [Int.neg_mul]; omega)
    have g2 := hbd c s3 (by omega)
    have g3 := Int.mul_nonneg (show 0 ≤ q by omega) (show 0 ≤ -d by omega)
    have g4 := Int.mul_nonneg (show 0 ≤ q by omega) s3
    rw [Int.mul_neg] at g1 g3
    omega
theorem leh_step {u v S x0 y0 x y a b c d q : Int} (hB : Base u v S x0 y0) (h : Leh u v S x0 y0 x y a b c d) (hc : 0 < y + c) (hd : 0 < y + d) (hq1 : q = (x + a).tdiv (y + c)) (hq2 : q = (x + b).tdiv (y + d))
    (b1 : -1073741824 < a - q * c ∧ a - q * c < 1073741824) (b2 : -1073741824 < b - q * d ∧ b - q * d < 1073741824) : Leh u v S x0 y0 y (x - q * y) c d (a - q * c) (b - q * d) := by
  obtain ⟨⟨q1, q2, q3, q4⟩, _⟩ := leh_ov hB h hc hd hq1 hq2
  obtain ⟨hx, hy, sg, ba, bc, V0, VU, Uu, g, f⟩ := h
  have eV : (a - q * c) * u + (b - q * d) * v = (a * u + b * v) - q * (c * u + d * v) := by grind
  rw [Int.add_mul, Int.one_mul] at q4
  refine ⟨hy, ?_, ?_, bc, ⟨b1, b2⟩, by rw [eV]; omega, by rw [eV]; omega, by omega, ?_, ?_⟩
  · rw [hx, hy]; grind
  · rcases sg with ⟨⟨s1, s2⟩, ⟨s3, s4⟩, dt⟩ | ⟨⟨s1, s2⟩, ⟨s3, s4⟩, dt⟩
    · refine .inr ⟨⟨s3, s4⟩, ⟨?_, ?_⟩, by grind⟩
      · have := Int.mul_nonneg (show 0 ≤ q by omega) (show 0 ≤ -c by omega)
        rw [Int.mul_neg] at this; omega
      · have := Int.mul_nonneg (show 0 ≤ q by omega) s4
        omega
    · refine .inl ⟨⟨s3, s4⟩, ⟨?_, ?_⟩, by grind⟩
      · have := Int.mul_nonneg (show 0 ≤ q by omega) s3
        omega
      · have := Int.mul_nonneg (show 0 ≤ q by omega) (show 0 ≤ -d by omega)
        rw [Int.mul_neg] at this; omega
  · rw [eV, Int.gcd_sub_mul_right_right, Int.gcd_comm]; exact g
  · right
    rw [eV]
    have hvu := hB.vu
    rcases f with ⟨_, f⟩ | f <;> omega
def lsQ (x y a c : Int) : Int := (x + a).tdiv (y + c)
def lsM (c d : Int) : Int := max (max (max c (-c)) d) (-d)
def lsF (x y a b c d : Int) : Int × Int × Int × Int :=
  if 0 < y + c ∧ 0 < y + d then
    if lsQ x y a c = lsQ x y b d then
      if 1073741824 ≤ lsM (a - lsQ x y a c * c) (b - lsQ x y a c * d) then (a, b, c, d)
      else if h : (x - lsQ x y a c * y).toNat < y.toNat then lsF y (x - lsQ x y a c * y) c d (a - lsQ x y a c * c) (b - lsQ x y a c * d) else (a, b, c, d)
    else (a, b, c, d)
  else (a, b, c, d)
termination_by y.toNat
theorem lsM_lt {c d : Int} (h : ¬ 1073741824 ≤ lsM c d) : (-1073741824 < c ∧ c < 1073741824) ∧ -1073741824 < d ∧ d < 1073741824 := by
  unfold lsM at h; omega
theorem lsF_spec {u v S x0 y0 : Int} (hB : Base u v S x0 y0) : ∀ (n : Nat) (x y a b c d : Int), y.toNat = n → Leh u v S x0 y0 x y a b c d →
    ∃ x' y', Leh u v S x0 y0 x' y' (lsF x y a b c d).1 (lsF x y a b c d).2.1 (lsF x y a b c d).2.2.1 (lsF x y a b c d).2.2.2 := by
  intro n
  induction n using Nat.strongRecOn with
  | _ n ih =>
    intro x y a b c d hn h
    rw [lsF]
    split
    · rename_i h1
      split
      · rename_i h2
        split
        · exact ⟨x, y, h⟩
        · rename_i h3
          obtain ⟨g1, g2⟩ := lsM_lt h3
          split
          · rename_i h4
            exact ih _ (by rw [← hn]; exact h4) _ _ _ _ _ _ rfl (leh_step hB h h1.1 h1.2 rfl h2 g1 g2)
          · exact ⟨x, y, h⟩
      · exact ⟨x, y, h⟩
    · exact ⟨x, y, h⟩
end Go.Proofs.Ythnhfkpihbjddaa
end
