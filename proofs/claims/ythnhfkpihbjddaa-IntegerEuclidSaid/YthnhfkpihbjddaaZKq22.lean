import Derived.Test.YthnhfkpihbjddaaZKq21
import Derived.Test.YthnhfkpihbjddaaZKq18
import Derived.Test.YthnhfkpihbjddaaZKq19
import Derived.Test.YthnhfkpihbjddaaZKq13
section
namespace Go.Proofs.Ythnhfkpihbjddaa
open Go.VD
set_option linter.unusedVariables false
set_option linter.unusedSimpArgs false
set_option maxRecDepth 100000
theorem gdivB_pure (xs ys : List Nat) (hpre : dHyp xs ys ∧ nv xs < nv ys) : PureJ Try.prog 55 [.ro xs.length (u32s xs), .ro ys.length (u32s ys)] (.tup [.ro (dg (nv xs / nv ys)).length (u32s (dg (nv xs / nv ys))), .ro (dg (nv xs % nv ys)).length (u32s (dg (nv xs % nv ys)))]) := by
  refine pureJ_of_vcpN (call := (addPure 61 ent_cmpr noCalls)) (lp := fun _ => none) (N := 10) T_ok mixed (addPure_ok ent_cmpr_ok noCalls_ok) Try.func55 rfl (by decide) (by kernel_rfl) (by kernel_rfl) (LpAllP.none _) (by first | trivial | (simp only [NamelessL, Nameless, and_self, and_true, true_and]; done) | (simp [NamelessL, Nameless, u32s_nameless, namelessL_ints]; done)) (by first | trivial | (simp only [NamelessL, Nameless, and_self, and_true, true_and]; done) | (simp [NamelessL, Nameless, u32s_nameless, namelessL_ints]; done)) ?_
  refine of_eq (B := letI z6 := (((List.length ys) : Nat) : Int); letI z0 := (IntKind.wrap IntKind.i64 (z6 - (1 : Int))); letI z9 := ((Int.toNat z0) * (1 : Nat)); letI z14 := (List.length (u32s ys)); letI z7 := (List.getD (u32s ys) z9 (Inhabited.default)); letI z1 := ((z9 < z14) ∧ (IsInt IntKind.u32 z7)); letI z2 := (cellInt z7); letI z3 := (((0 : Int) ≤ z0) ∧ (z0 < z6)); letI z4 := (True ∧ (True ∧ False)); letI z5 := (2147483648 : Int); letI z8 := (unu (u32s xs)); letI z10 := (unu (u32s ys)); letI z11 := ((0 : Int) ≤ (0 : Int)); letI z12 := (dg ((nv xs) / (nv ys))); letI z13 := (dg ((nv xs) % (nv ys))); (True ∧ (True ∧ (True ∧ (True ∧ (((((u32s ys) = (u32s z10)) ∧ ((List.length ys) = (List.length z10))) ∧ ((((u32s xs) = (u32s z8)) ∧ ((List.length xs) = (List.length z8))) ∧ ((List.length z8) ≤ (1000000000000 : Nat)))) ∧ (True ∧ (pcond (Decidable.decide ((cmpL z8 z10) < (0 : Int))) (True ∧ (True ∧ (True ∧ (True ∧ ((True ∧ (True ∧ True)) ∧ ((D.tup [(D.ro (0 : Nat) ([] : List D)), (D.ro (List.length xs) (u32s xs))]) = (D.tup [(D.ro (List.length z12) (u32s z12)), (D.ro (List.length z13) (u32s z13))]))))))) (True ∧ (True ∧ (True ∧ (pcond (z6 == (1 : Int)) (True ∧ (True ∧ ((z11 ∧ ((0 : Int) < z6)) ∧ ((((0 : Nat) < z14) ∧ (IsInt IntKind.u32 (List.getD (u32s ys) (0 : Nat) (Inhabited.default)))) ∧ False)))) (True ∧ (True ∧ (True ∧ (True ∧ (True ∧ (z3 ∧ (z1 ∧ (True ∧ (True ∧ (z11 ∧ (True ∧ (True ∧ (pcond ((bits BinOp.and IntKind.u32 (IntKind.wrap IntKind.u32 (z2 * (1 : Int))) z5) == (0 : Int)) (True ∧ (True ∧ (True ∧ (True ∧ (True ∧ (True ∧ (True ∧ (z3 ∧ (z1 ∧ (True ∧ (True ∧ (((0 : Int) ≤ (1 : Int)) ∧ (True ∧ (True ∧ (pcond ((bits BinOp.and IntKind.u32 (IntKind.wrap IntKind.u32 (z2 * (2 : Int))) z5) == (0 : Int)) (True ∧ (True ∧ (True ∧ (True ∧ (True ∧ (True ∧ (True ∧ (z3 ∧ (z1 ∧ (True ∧ (True ∧ (((0 : Int) ≤ (2 : Int)) ∧ (True ∧ (True ∧ (pcond ((bits BinOp.and IntKind.u32 (IntKind.wrap IntKind.u32 (z2 * (4 : Int))) z5) == (0 : Int)) (True ∧ (True ∧ (True ∧ (True ∧ (True ∧ (True ∧ (True ∧ (z3 ∧ (z1 ∧ (True ∧ (True ∧ (((0 : Int) ≤ (3 : Int)) ∧ (True ∧ (True ∧ (pcond ((bits BinOp.and IntKind.u32 (IntKind.wrap IntKind.u32 (z2 * (8 : Int))) z5) == (0 : Int)) (True ∧ (True ∧ (True ∧ (True ∧ (True ∧ (True ∧ (True ∧ (z3 ∧ (z1 ∧ (True ∧ (True ∧ (((0 : Int) ≤ (4 : Int)) ∧ (True ∧ (True ∧ (pcond ((bits BinOp.and IntKind.u32 (IntKind.wrap IntKind.u32 (z2 * (16 : Int))) z5) == (0 : Int)) (True ∧ (True ∧ (True ∧ (True ∧ (True ∧ (True ∧ (True ∧ (z3 ∧ (z1 ∧ (True ∧ (True ∧ (((0 : Int) ≤ (5 : Int)) ∧ (True ∧ (True ∧ (pcond ((bits BinOp.and IntKind.u32 (IntKind.wrap IntKind.u32 (z2 * (32 : Int))) z5) == (0 : Int)) (True ∧ (True ∧ (True ∧ (True ∧ (True ∧ (True ∧ (True ∧ (z3 ∧ (z1 ∧ (True ∧ (True ∧ (((0 : Int) ≤ (6 : Int)) ∧ (True ∧ (True ∧ (pcond ((bits BinOp.and IntKind.u32 (IntKind.wrap IntKind.u32 (z2 * (64 : Int))) z5) == (0 : Int)) (True ∧ (True ∧ (True ∧ (True ∧ (True ∧ (True ∧ (True ∧ (z3 ∧ (z1 ∧ (True ∧ (True ∧ (((0 : Int) ≤ (7 : Int)) ∧ (True ∧ (True ∧ (pcond ((bits BinOp.and IntKind.u32 (IntKind.wrap IntKind.u32 (z2 * (128 : Int))) z5) == (0 : Int)) (True ∧ (True ∧ (True ∧ (True ∧ (True ∧ (True ∧ (True ∧ (z3 ∧ (z1 ∧ (True ∧ (True ∧ (((0 : Int) ≤ (8 : Int)) ∧ (True ∧ (True ∧ (pcond ((bits BinOp.and IntKind.u32 (IntKind.wrap IntKind.u32 (z2 * (256 : Int))) z5) == (0 : Int)) (True ∧ (True ∧ (True ∧ (True ∧ (True ∧ (True ∧ (True ∧ (z3 ∧ (z1 ∧ (True ∧ (True ∧ (((0 : Int) ≤ (9 : Int)) ∧ (True ∧ (True ∧ (pcond ((bits BinOp.and IntKind.u32 (IntKind.wrap IntKind.u32 (z2 * (512 : Int))) z5) == (0 : Int)) (True ∧ z4) z4))))))))))))))) z4))))))))))))))) z4))))))))))))))) z4))))))))))))))) z4))))))))))))))) z4))))))))))))))) z4))))))))))))))) z4))))))))))))))) z4))))))))))))))) z4))))))))))))))))))))))))) (by kernel_rfl) ?_
  simp only [true_and, and_true, and_self, IsInt_lit, IsBool_lit, IsStr_lit, Bool.not_eq_true', Bool.not_eq_false', Bool.not_true, Bool.not_false, Int.reduceLE, Int.reduceLT, Int.reduceNeg, Nat.le_refl, Int.le_refl, Nat.reduceLT, Nat.reduceLeDiff, Nat.reduceEqDiff, D.v.injEq, D.tup.injEq, D.agg.injEq, D.ro.injEq, List.cons.injEq, Value.int.injEq, Value.bool.injEq, pcond_true, pcond_false, NamelessL, Nameless, Nat.reduceMul, Nat.reduceAdd, Nat.zero_add, Int.toNat_natCast, unu_u32s]
  obtain ⟨⟨⟨⟨hlx, hly⟩, gx, gy⟩, h0⟩, hlt⟩ := hpre
  have hc : decide (cmpL xs ys < 0) = true := by rw [cmp_canon gx gy]; simp [cmpN, hlt]
  rw [hc, pcond_true, Nat.div_eq_of_lt hlt, Nat.mod_eq_of_lt hlt, ← gx, dg_zero]
  exact ⟨by omega, ⟨rfl, rfl⟩, rfl, rfl⟩
def ent_gdivB : Ent := fun ds => match ds with
  | [.ro n_xs ys_xs, .ro n_ys ys_ys] => some (.tup [.ro (dg (nv (unu ys_xs) / nv (unu ys_ys))).length (u32s (dg (nv (unu ys_xs) / nv (unu ys_ys)))), .ro (dg (nv (unu ys_xs) % nv (unu ys_ys))).length (u32s (dg (nv (unu ys_xs) % nv (unu ys_ys))))], (ys_ys = u32s (unu ys_ys) ∧ n_ys = (unu ys_ys).length) ∧ (ys_xs = u32s (unu ys_xs) ∧ n_xs = (unu ys_xs).length) ∧ dHyp (unu ys_xs) (unu ys_ys) ∧ nv (unu ys_xs) < nv (unu ys_ys))
  | _ => none
theorem ent_gdivB_ok : EntOk Try.prog 55 ent_gdivB := by
  intro ds d c h hc; unfold ent_gdivB at h; split at h
  · rename_i n_xs ys_xs n_ys ys_ys; obtain ⟨rfl, rfl⟩ := pair_inj h
    obtain ⟨⟨h1, h2⟩, hc⟩ := hc; subst h2; generalize (unu ys_ys) = ys at *; subst h1
    obtain ⟨⟨h1, h2⟩, hc⟩ := hc; subst h2; generalize (unu ys_xs) = xs at *; subst h1
    exact gdivB_pure xs ys hc
  · cases h
theorem gdivC_pure (xs ys : List Nat) (hpre : dHyp xs ys ∧ nv ys ≤ nv xs ∧ ys.length = 1) : PureJ Try.prog 55 [.ro xs.length (u32s xs), .ro ys.length (u32s ys)] (.tup [.ro (dg (nv xs / nv ys)).length (u32s (dg (nv xs / nv ys))), .ro (dg (nv xs % nv ys)).length (u32s (dg (nv xs % nv ys)))]) := by
  refine pureJ_of_vcpN (call := (addPure 61 ent_cmpr (addPure 98 ent_short (addPure 56 ent_trim noCalls)))) (lp := fun _ => none) (N := 10) T_ok mixed (addPure_ok ent_cmpr_ok (addPure_ok ent_short_ok (addPure_ok ent_trim_ok noCalls_ok))) Try.func55 rfl (by decide) (by kernel_rfl) (by kernel_rfl) (LpAllP.none _) (by first | trivial | (simp only [NamelessL, Nameless, and_self, and_true, true_and]; done) | (simp [NamelessL, Nameless, u32s_nameless, namelessL_ints]; done)) (by first | trivial | (simp only [NamelessL, Nameless, and_self, and_true, true_and]; done) | (simp [NamelessL, Nameless, u32s_nameless, namelessL_ints]; done)) ?_
  refine of_eq (B := letI z10 := (((List.length ys) : Nat) : Int); letI z0 := (IntKind.wrap IntKind.i64 (z10 - (1 : Int))); letI z15 := ((Int.toNat z0) * (1 : Nat)); letI z22 := (List.length (u32s ys)); letI z11 := (List.getD (u32s ys) z15 (Inhabited.default)); letI z1 := ((z15 < z22) ∧ (IsInt IntKind.u32 z11)); letI z9 := (unu (u32s xs)); letI z5 := (List.getD (u32s ys) (0 : Nat) (Inhabited.default)); letI z13 := (Int.toNat (cellInt z5)); letI z2 := (D.v (Value.int IntKind.u32 ((((nv z9) % z13) : Nat) : Int))); letI z3 := (cellInt z11); letI z4 := (((0 : Int) ≤ z0) ∧ (z0 < z10)); letI z6 := (True ∧ (True ∧ False)); letI z20 := (dg ((nv xs) / (nv ys))); letI z21 := (dg ((nv xs) % (nv ys))); letI z7 := (D.tup [(D.ro (List.length z20) (u32s z20)), (D.ro (List.length z21) (u32s z21))]); letI z8 := (2147483648 : Int); letI z14 := List.length z9; letI z12 := (((u32s xs) = (u32s z9)) ∧ ((List.length xs) = z14)); letI z16 := (unu (u32s ys)); letI z17 := (True ∧ (True ∧ True)); letI z18 := ((0 : Int) ≤ (0 : Int)); letI z19 := (List.length (unu [z2])); letI z23 := (dg ((nv z9) / z13)); (True ∧ (True ∧ (True ∧ (True ∧ (((((u32s ys) = (u32s z16)) ∧ ((List.length ys) = (List.length z16))) ∧ (z12 ∧ (z14 ≤ (1000000000000 : Nat)))) ∧ (True ∧ (pcond (Decidable.decide ((cmpL z9 z16) < (0 : Int))) (True ∧ (True ∧ (True ∧ (True ∧ (z17 ∧ ((D.tup [(D.ro (0 : Nat) ([] : List D)), (D.ro (List.length xs) (u32s xs))]) = z7)))))) (True ∧ (True ∧ (True ∧ (pcond (z10 == (1 : Int)) (True ∧ (True ∧ ((z18 ∧ ((0 : Int) < z10)) ∧ ((((0 : Nat) < z22) ∧ (IsInt IntKind.u32 z5)) ∧ ((z12 ∧ (((z14 ≤ (400000 : Nat)) ∧ (Dig z9)) ∧ (((0 : Int) < (cellInt z5)) ∧ ((cellInt z5) < (4294967296 : Int))))) ∧ (True ∧ (True ∧ (True ∧ (True ∧ (True ∧ (True ∧ (True ∧ ((((1 : Nat) ≤ (16777216 : Nat)) ∧ ((1 : Nat) ≤ (9223372036854775807 : Nat))) ∧ (((((NamelessL [z2]) ∧ (((0 : Nat) < (1 : Nat)) ∧ ((1 : Nat) ≤ (1 : Nat)))) ∧ True) ∧ ((([z2] = (u32s (unu [z2]))) ∧ ((1 : Nat) = z19)) ∧ (z19 ≤ (1000000 : Nat)))) ∧ (True ∧ (True ∧ (True ∧ (z17 ∧ ((D.tup [(D.ro (List.length z23) (u32s z23)), (D.ro (List.length (trimL (unu [z2]))) (u32s (trimL (unu [z2]))))]) = z7))))))))))))))))))) (True ∧ (True ∧ (True ∧ (True ∧ (True ∧ (z4 ∧ (z1 ∧ (True ∧ (True ∧ (z18 ∧ (True ∧ (True ∧ (pcond ((bits BinOp.and IntKind.u32 (IntKind.wrap IntKind.u32 (z3 * (1 : Int))) z8) == (0 : Int)) (True ∧ (True ∧ (True ∧ (True ∧ (True ∧ (True ∧ (True ∧ (z4 ∧ (z1 ∧ (True ∧ (True ∧ (((0 : Int) ≤ (1 : Int)) ∧ (True ∧ (True ∧ (pcond ((bits BinOp.and IntKind.u32 (IntKind.wrap IntKind.u32 (z3 * (2 : Int))) z8) == (0 : Int)) (True ∧ (True ∧ (True ∧ (True ∧ (True ∧ (True ∧ (True ∧ (z4 ∧ (z1 ∧ (True ∧ (True ∧ (((0 : Int) ≤ (2 : Int)) ∧ (True ∧ (True ∧ (pcond ((bits BinOp.and IntKind.u32 (IntKind.wrap IntKind.u32 (z3 * (4 : Int))) z8) == (0 : Int)) (True ∧ (True ∧ (True ∧ (True ∧ (True ∧ (True ∧ (True ∧ (z4 ∧ (z1 ∧ (True ∧ (True ∧ (((0 : Int) ≤ (3 : Int)) ∧ (True ∧ (True ∧ (pcond ((bits BinOp.and IntKind.u32 (IntKind.wrap IntKind.u32 (z3 * (8 : Int))) z8) == (0 : Int)) (True ∧ (True ∧ (True ∧ (True ∧ (True ∧ (True ∧ (True ∧ (z4 ∧ (z1 ∧ (True ∧ (True ∧ (((0 : Int) ≤ (4 : Int)) ∧ (True ∧ (True ∧ (pcond ((bits BinOp.and IntKind.u32 (IntKind.wrap IntKind.u32 (z3 * (16 : Int))) z8) == (0 : Int)) (True ∧ (True ∧ (True ∧ (True ∧ (True ∧ (True ∧ (True ∧ (z4 ∧ (z1 ∧ (True ∧ (True ∧ (((0 : Int) ≤ (5 : Int)) ∧ (True ∧ (True ∧ (pcond ((bits BinOp.and IntKind.u32 (IntKind.wrap IntKind.u32 (z3 * (32 : Int))) z8) == (0 : Int)) (True ∧ (True ∧ (True ∧ (True ∧ (True ∧ (True ∧ (True ∧ (z4 ∧ (z1 ∧ (True ∧ (True ∧ (((0 : Int) ≤ (6 : Int)) ∧ (True ∧ (True ∧ (pcond ((bits BinOp.and IntKind.u32 (IntKind.wrap IntKind.u32 (z3 * (64 : Int))) z8) == (0 : Int)) (True ∧ (True ∧ (True ∧ (True ∧ (True ∧ (True ∧ (True ∧ (z4 ∧ (z1 ∧ (True ∧ (True ∧ (((0 : Int) ≤ (7 : Int)) ∧ (True ∧ (True ∧ (pcond ((bits BinOp.and IntKind.u32 (IntKind.wrap IntKind.u32 (z3 * (128 : Int))) z8) == (0 : Int)) (True ∧ (True ∧ (True ∧ (True ∧ (True ∧ (True ∧ (True ∧ (z4 ∧ (z1 ∧ (True ∧ (True ∧ (((0 : Int) ≤ (8 : Int)) ∧ (True ∧ (True ∧ (pcond ((bits BinOp.and IntKind.u32 (IntKind.wrap IntKind.u32 (z3 * (256 : Int))) z8) == (0 : Int)) (True ∧ (True ∧ (True ∧ (True ∧ (True ∧ (True ∧ (True ∧ (z4 ∧ (z1 ∧ (True ∧ (True ∧ (((0 : Int) ≤ (9 : Int)) ∧ (True ∧ (True ∧ (pcond ((bits BinOp.and IntKind.u32 (IntKind.wrap IntKind.u32 (z3 * (512 : Int))) z8) == (0 : Int)) (True ∧ z6) z6))))))))))))))) z6))))))))))))))) z6))))))))))))))) z6))))))))))))))) z6))))))))))))))) z6))))))))))))))) z6))))))))))))))) z6))))))))))))))) z6))))))))))))))) z6))))))))))))))))))))))))) (by kernel_rfl) ?_
  simp only [true_and, and_true, and_self, IsInt_lit, IsBool_lit, IsStr_lit, Bool.not_eq_true', Bool.not_eq_false', Bool.not_true, Bool.not_false, Int.reduceLE, Int.reduceLT, Int.reduceNeg, Nat.le_refl, Int.le_refl, Nat.reduceLT, Nat.reduceLeDiff, Nat.reduceEqDiff, D.v.injEq, D.tup.injEq, D.agg.injEq, D.ro.injEq, List.cons.injEq, Value.int.injEq, Value.bool.injEq, pcond_true, pcond_false, NamelessL, Nameless, Nat.reduceMul, Nat.reduceAdd, Nat.zero_add, Int.toNat_natCast, unu_u32s]
  obtain ⟨⟨⟨⟨hlx, hly⟩, gx, gy⟩, h0⟩, hle, h1⟩ := hpre
  have dx : Dig xs := by rw [gx]; exact dg_dig _
  have dy : Dig ys := by rw [gy]; exact dg_dig _
  have hc : decide (cmpL xs ys < 0) = false := by rw [cmp_canon gx gy]; unfold cmpN; rw [if_neg (by omega)]; split <;> rfl
  have hc2 : ((ys.length : Int) == 1) = true := by simp; omega
  obtain ⟨y, rfl⟩ : ∃ y, ys = [y] := List.length_eq_one_iff.1 h1
  have hv : nv [y] = y := by simp [nv]
  have hy := dy.get 0
  have hg : ([y] : List Nat).getD 0 0 = y := rfl
  rw [hg] at hy
  rw [hc, hc2, pcond_false, pcond_true]
  rw [hv] at hle h0 ⊢
  have hm := Nat.mod_lt (nv xs) h0
  have hu1 : ∀ n : Nat, unu [D.v (Value.int IntKind.u32 (n : Int))] = [n] := fun n => unu_u32s [n]
  have ht : trimL [nv xs % y] = dg (nv xs % y) := trimL_dgn (k := 1) (v := nv xs % y) (by omega) ▸ (by
    have : dgn 1 (nv xs % y) = [nv xs % y] := by rw [dgn, dgn, Nat.mod_eq_of_lt (by omega)]
    rw [this])
  simp only [u32s_cell, hg, Int.toNat_natCast, u32s_isInt [y] 0 (by simp), and_true, Nat.mul_one, u32s_length, hu1, ht]
  exact ⟨by omega, by simp, by simp, ⟨⟨by omega, dx⟩, by omega, by omega⟩, ⟨rfl, rfl⟩, by simp⟩
def ent_gdivC : Ent := fun ds => match ds with
  | [.ro n_xs ys_xs, .ro n_ys ys_ys] => some (.tup [.ro (dg (nv (unu ys_xs) / nv (unu ys_ys))).length (u32s (dg (nv (unu ys_xs) / nv (unu ys_ys)))), .ro (dg (nv (unu ys_xs) % nv (unu ys_ys))).length (u32s (dg (nv (unu ys_xs) % nv (unu ys_ys))))], (ys_ys = u32s (unu ys_ys) ∧ n_ys = (unu ys_ys).length) ∧ (ys_xs = u32s (unu ys_xs) ∧ n_xs = (unu ys_xs).length) ∧ dHyp (unu ys_xs) (unu ys_ys) ∧ nv (unu ys_ys) ≤ nv (unu ys_xs) ∧ (unu ys_ys).length = 1)
  | _ => none
theorem ent_gdivC_ok : EntOk Try.prog 55 ent_gdivC := by
  intro ds d c h hc; unfold ent_gdivC at h; split at h
  · rename_i n_xs ys_xs n_ys ys_ys; obtain ⟨rfl, rfl⟩ := pair_inj h
    obtain ⟨⟨h1, h2⟩, hc⟩ := hc; subst h2; generalize (unu ys_ys) = ys at *; subst h1
    obtain ⟨⟨h1, h2⟩, hc⟩ := hc; subst h2; generalize (unu ys_xs) = xs at *; subst h1
    exact gdivC_pure xs ys hc
  · cases h
theorem gdivA_pure (xs ys : List Nat) (hpre : dHyp2 xs ys ∧ nv ys ≤ nv xs) : PureJ Try.prog 55 [.ro xs.length (u32s xs), .ro ys.length (u32s ys)] (.tup [.ro (dg (nv xs / nv ys)).length (u32s (dg (nv xs / nv ys))), .ro (dg (nv xs % nv ys)).length (u32s (dg (nv xs % nv ys)))]) := by
  refine pureJ_of_vcpN (call := (addPure 61 ent_cmpr (addMake 99 entk_gsh (addPure 56 ent_trim (addPure 64 ent_gback noCalls))))) (lp := fun k => bif Nat.beq k 7 then some (lp_gnormLoop xs ys) else bif Nat.beq k 12 then some (lp_gdivLoop xs ys) else none) (N := 10) T_ok mixed (addPure_ok ent_cmpr_ok (addMake_ok entk_gsh_ok (addPure_ok ent_trim_ok (addPure_ok ent_gback_ok noCalls_ok)))) Try.func55 rfl (by decide) (by kernel_rfl) (by kernel_rfl) (of_eq (B := letI z0 := ((Try.f55.body).getD .skip); LRuleP Try.prog Try.f55.ntmps (loopAt z0 7) (lp_gnormLoop xs ys) ∧ LRuleP Try.prog Try.f55.ntmps (loopAt z0 12) (lp_gdivLoop xs ys) ∧ True) (by kernel_rfl) ⟨gnormLoop_rule xs ys hpre.1, ⟨gdivLoop_rule xs ys hpre.1, trivial⟩⟩) (by first | trivial | (simp only [NamelessL, Nameless, and_self, and_true, true_and]; done) | (simp [NamelessL, Nameless, u32s_nameless, namelessL_ints]; done)) (by first | trivial | (simp only [NamelessL, Nameless, and_self, and_true, true_and]; done) | (simp [NamelessL, Nameless, u32s_nameless, namelessL_ints]; done)) ?_
  refine of_eq (B := letI z7 := List.length xs; letI z11 := List.length ys; letI z3 := ((z11 : Nat) : Int); letI z23 := (IntKind.wrap IntKind.i64 (((z7 : Nat) : Int) - z3)); letI z0 := (IntKind.wrap IntKind.i64 (z23 + (1 : Int))); letI z39 := (List.length (dvs ys)); letI z10 := ((z39 : Nat) : Int); letI z34 := ((Int.toNat z10) - (0 : Nat)); letI z1 := (z34 * (1 : Nat)); letI z2 := (((dsh ys) : Nat) : Int); letI z9 := (unu (u32s ys)); letI z21 := List.length z9; letI z12 := ((2 : Nat) ^ (Int.toNat z2)); letI z4 := (u32s (dgn (z21 + (1 : Nat)) ((nv z9) * z12))); letI z36 := (dg ((nv xs) / (nv ys))); letI z37 := (dg ((nv xs) % (nv ys))); letI z5 := (D.tup [(D.ro (List.length z36) (u32s z36)), (D.ro (List.length z37) (u32s z37))]); letI z15 := (unu (u32s xs)); letI z6 := (List.length z15); letI z8 := ((dM xs ys) * (1 : Nat)); letI z13 := ((nv xs) * ((2 : Nat) ^ (dsh ys))); letI z14 := (((0 : Int) ≤ z2) ∧ (z2 < (32 : Int))); letI z16 := (List.replicate (dM xs ys) (0 : Nat)); letI z17 := (List.replicate (Int.toNat z0) (D.v (Value.int IntKind.u32 (0 : Int)))); letI z18 := ([] : List (Option Blk)); letI z19 := Bool.true = Bool.true; letI z20 := (Cap.toEnd (1 : Nat)); letI z22 := ((Int.toNat z3) - (0 : Nat)); letI z24 := (u32s (dgn (z6 + (1 : Nat)) ((nv z15) * z12))); letI z25 := ((0 : Nat) < (1 : Nat)); letI z26 := (z7 + (1 : Nat)); letI z27 := (((u32s ys) = (u32s z9)) ∧ (z11 = z21)); letI z28 := (z13 / ((4294967296 : Nat) ^ (dM xs ys))); letI z29 := (((u32s xs) = (u32s z15)) ∧ (z7 = z6)); letI z30 := (D.v (Value.int IntKind.i64 (0 : Int))); letI z31 := (1000000 : Nat); letI z32 := (D.ro z7 (u32s xs)); letI z33 := (D.v (Value.int IntKind.i64 z2)); letI z35 := (True ∧ (True ∧ True)); letI z38 := ((1 : Nat) = (1 : Nat)); letI z40 := (D.ro z11 (u32s ys)); (True ∧ (True ∧ (True ∧ (True ∧ ((z27 ∧ (z29 ∧ (z6 ≤ (1000000000000 : Nat)))) ∧ (True ∧ (pcond (Decidable.decide ((cmpL z15 z9) < (0 : Int))) (True ∧ (True ∧ (True ∧ (True ∧ (z35 ∧ ((D.tup [(D.ro (0 : Nat) ([] : List D)), z32]) = z5)))))) (True ∧ (True ∧ (True ∧ (pcond (z3 == (1 : Int)) (True ∧ (True ∧ ((((0 : Int) ≤ (0 : Int)) ∧ ((0 : Int) < z3)) ∧ ((((0 : Nat) < (List.length (u32s ys))) ∧ (IsInt IntKind.u32 (List.getD (u32s ys) (0 : Nat) (Inhabited.default)))) ∧ False)))) (True ∧ (((0 : Nat) ≤ (dsh ys)) ∧ ((z19 ∧ ((z18 = z18) ∧ ((True ∧ (z32 = z32)) ∧ ((True ∧ (z40 = z40)) ∧ ((True ∧ (z30 = z30)) ∧ True))))) ∧ (Unit → (True → (True ∧ (True ∧ ((z29 ∧ (((z6 ≤ z31) ∧ (Dig z15)) ∧ z14)) ∧ (True ∧ (True ∧ ((z27 ∧ (((z21 ≤ z31) ∧ (Dig z9)) ∧ z14)) ∧ (True ∧ (True ∧ (((True ∧ ((((0 : Int) ≤ z3) ∧ (z3 ≤ (((z21 + (1 : Nat)) : Nat) : Int))) ∧ True)) ∧ z38) ∧ (True ∧ (True ∧ (z19 ∧ (True ∧ (True ∧ (True ∧ (True ∧ (True ∧ (True ∧ ((((0 : Int) ≤ z0) ∧ ((z0 ≤ z0) ∧ ((((4 : Int) * z0) ≤ (281474976710656 : Int)) ∧ (z0 ≤ (9223372036854775807 : Int))))) ∧ (True ∧ (True ∧ (True ∧ (True ∧ (True ∧ (True ∧ (True ∧ (((((dM xs ys) ≤ (dM xs ys)) ∧ (((List.length (dU0 xs ys)) = z26) ∧ (Dig (dU0 xs ys)))) ∧ (((List.take ((dM xs ys) + z11) (dU0 xs ys)) = ((List.take (dM xs ys) (dU0 xs ys)) ++ (dgn z11 (z28 % (nv (dvs ys)))))) ∧ (z16 = (z16 ++ (dgn ((dM xs ys) - (dM xs ys)) (z28 / (nv (dvs ys)))))))) ∧ ((z19 ∧ (((((Option.some (Blk.mk (41 : Nat) (u32s (dU0 xs ys)) Bool.true)) = (Option.some (Blk.mk (41 : Nat) z24 Bool.true))) ∧ (NamelessL z24)) ∧ ((((Option.some (Blk.mk (41 : Nat) (u32s z16) Bool.true)) = (Option.some (Blk.mk (41 : Nat) z17 Bool.true))) ∧ (NamelessL z17)) ∧ (z18 = z18))) ∧ ((True ∧ (z33 = z33)) ∧ ((True ∧ ((D.sl (0 : Nat) (0 : Nat) (z6 + (1 : Nat)) z20) = (D.sl (0 : Nat) (0 : Nat) z26 z20))) ∧ ((((NamelessL z4) ∧ (z25 ∧ (((0 : Nat) + (z22 * (1 : Nat))) ≤ (List.length z4)))) ∧ ((D.ro z22 (List.take (z22 * (1 : Nat)) (List.drop (0 : Nat) z4))) = (D.ro z39 (u32s (dvs ys))))) ∧ ((True ∧ ((D.sl (1 : Nat) (0 : Nat) (Int.toNat z0) z20) = (D.sl (1 : Nat) (0 : Nat) (dM xs ys) z20))) ∧ ((True ∧ ((D.v (Value.int IntKind.i64 z23)) = (D.v (Value.int IntKind.i64 ((((dM xs ys) : Nat) : Int) - (1 : Int)))))) ∧ True))))))) ∧ (∀ (r : (Prod (List Nat) (List Nat))), (((((List.length (Prod.fst r)) = z26) ∧ ((Dig (Prod.fst r)) ∧ ((List.take z11 (Prod.fst r)) = (dgn z11 (z13 % (nv (dvs ys))))))) ∧ ((Prod.snd r) = (dgn (dM xs ys) (z13 / (nv (dvs ys)))))) → (True ∧ (((((NamelessL (u32s (Prod.snd r))) ∧ (z25 ∧ (((0 : Nat) + z8) ≤ (List.length (u32s (Prod.snd r)))))) ∧ True) ∧ ((((List.take z8 (List.drop (0 : Nat) (u32s (Prod.snd r)))) = (u32s (unu (List.take z8 (List.drop (0 : Nat) (u32s (Prod.snd r))))))) ∧ ((dM xs ys) = (List.length (unu (List.take z8 (List.drop (0 : Nat) (u32s (Prod.snd r)))))))) ∧ ((List.length (unu (List.take z8 (List.drop (0 : Nat) (u32s (Prod.snd r)))))) ≤ z31))) ∧ (True ∧ (True ∧ (True ∧ (((True ∧ ((((0 : Int) ≤ z10) ∧ (z10 ≤ ((z26 : Nat) : Int))) ∧ True)) ∧ z38) ∧ (True ∧ (((((NamelessL (u32s (Prod.fst r))) ∧ (z25 ∧ (((0 : Nat) + z1) ≤ (List.length (u32s (Prod.fst r)))))) ∧ (True ∧ True)) ∧ ((((List.take z1 (List.drop (0 : Nat) (u32s (Prod.fst r)))) = (u32s (unu (List.take z1 (List.drop (0 : Nat) (u32s (Prod.fst r))))))) ∧ (z34 = (List.length (unu (List.take z1 (List.drop (0 : Nat) (u32s (Prod.fst r)))))))) ∧ ((((List.length (unu (List.take z1 (List.drop (0 : Nat) (u32s (Prod.fst r)))))) ≤ z31) ∧ (Dig (unu (List.take z1 (List.drop (0 : Nat) (u32s (Prod.fst r))))))) ∧ z14))) ∧ (True ∧ (True ∧ (z19 ∧ (True ∧ (z35 ∧ ((D.tup [(D.ro (List.length (trimL (unu (List.take z8 (List.drop (0 : Nat) (u32s (Prod.snd r))))))) (u32s (trimL (unu (List.take z8 (List.drop (0 : Nat) (u32s (Prod.snd r)))))))), (D.ro (List.length (dg ((nv (unu (List.take z1 (List.drop (0 : Nat) (u32s (Prod.fst r)))))) / z12))) (u32s (dg ((nv (unu (List.take z1 (List.drop (0 : Nat) (u32s (Prod.fst r)))))) / z12))))]) = z5))))))))))))))))))))))))))))))))))))))))))))))))))))))))))))) (by kernel_rfl) ?_
  simp only [true_and, and_true, and_self, IsInt_lit, IsBool_lit, IsStr_lit, Bool.not_eq_true', Bool.not_eq_false', Bool.not_true, Bool.not_false, Int.reduceLE, Int.reduceLT, Int.reduceNeg, Nat.le_refl, Int.le_refl, Nat.reduceLT, Nat.reduceLeDiff, Nat.reduceEqDiff, D.v.injEq, D.tup.injEq, D.agg.injEq, D.ro.injEq, List.cons.injEq, Value.int.injEq, Value.bool.injEq, pcond_true, pcond_false, NamelessL, Nameless, Nat.reduceMul, Nat.reduceAdd, Nat.zero_add, Int.toNat_natCast, unu_u32s]
  obtain ⟨hd, hle⟩ := hpre
  obtain ⟨⟨f1, f2⟩, ⟨f3, f4⟩, ⟨f5, f6⟩, f7, f8, dx, dy, dv⟩ := div_facts hd
  obtain ⟨⟨⟨⟨hlx, hly⟩, gx, gy⟩, h0⟩, h2, hll⟩ := hd
  have hc : decide (cmpL xs ys < 0) = false := by rw [cmp_canon gx gy]; unfold cmpN; rw [if_neg (by omega)]; split <;> rfl
  have hc2 : ((ys.length : Int) == 1) = false := by simp; omega
  have w2 : IntKind.i64.wrap (IntKind.i64.wrap ((xs.length : Int) - (ys.length : Int)) + 1) = ((dM xs ys : Nat) : Int) := by
    rw [wrap_i64_of (n := (xs.length : Int) - (ys.length : Int)) (by omega) (by omega), wrap_i64_of (by omega) (by omega)]; unfold dM; omega
  have w3 : IntKind.i64.wrap ((xs.length : Int) - (ys.length : Int)) = (dM xs ys : Int) - 1 := by rw [wrap_i64_of (by omega) (by omega)]; unfold dM; omega
  obtain ⟨s1, s2⟩ := div_start (M := dM xs ys) (n := ys.length) (V := nv (dvs ys)) dx f7 f8 (by omega) f6
  have e0 : List.replicate (dM xs ys) (D.v (Value.int IntKind.u32 0)) = u32s (List.replicate (dM xs ys) 0) := u32s_replicate _ 0
  have hU : dU0 xs ys = dgn (xs.length + 1) (nv xs * 2 ^ dsh ys) := rfl
  rw [hc, hc2, pcond_false, pcond_false]
  simp only [w2, Int.toNat_natCast, Nat.mul_one, u32s_length, List.drop_zero, unu_u32s, e0, f2, dgn_length, Nat.sub_self, Nat.sub_zero, s2, hU]
  have hYB : nv ys * 2 ^ dsh ys < 4294967296 ^ ys.length := by rw [← f1]; exact f5
  have hvs : List.take ys.length (u32s (dgn (ys.length + 1) (nv ys * 2 ^ dsh ys))) = u32s (dvs ys) := by
    rw [u32s_take, dgn_add, List.take_left' (dgn_length _ _)]
    congr 1
    have := dgn_nv dv
    rw [f2, f1] at this
    exact this
  refine ⟨by omega, Nat.zero_le _, fun _ _ => ⟨⟨⟨by omega, dx⟩, by omega, by omega⟩, ⟨⟨by omega, dy⟩, by omega, by omega⟩, ⟨by omega, by omega⟩, ⟨by omega, by omega, by omega⟩, ⟨⟨trivial, dgn_dig _ _⟩, s1, by simp [dgn]⟩, ⟨⟨⟨trivial, u32s_nameless _⟩, trivial, u32s_nameless _⟩, ⟨⟨u32s_nameless _, by omega⟩, trivial, hvs⟩, trivial, w3⟩, ?_⟩⟩
  rintro ⟨us, qs⟩ ⟨⟨hul, hud, hut⟩, hq⟩
  simp only at hul hud hut hq
  subst hq
  have hXV : nv xs * 2 ^ dsh ys / nv (dvs ys) < 4294967296 ^ dM xs ys := by
    rw [Nat.div_lt_iff_lt_mul f4, Nat.mul_comm (4294967296 ^ _), ← Nat.div_lt_iff_lt_mul (pow_pos32 _)]
    exact (Nat.div_eq_zero_iff_lt f4).1 s2
  have hmod := Nat.mod_lt (nv xs * 2 ^ dsh ys) f4
  have hq1 : trimL (dgn (dM xs ys) (nv xs * 2 ^ dsh ys / nv (dvs ys))) = dg (nv xs / nv ys) := by
    rw [trimL_dgn hXV, f1, scale_div]
  have hr1 : nv (dgn ys.length (nv xs * 2 ^ dsh ys % nv (dvs ys))) / 2 ^ dsh ys = nv xs % nv ys := by
    rw [nv_dgn, Nat.mod_eq_of_lt (Nat.lt_trans hmod f5), f1, scale_mod]
  have e5 : List.take (dM xs ys) (u32s (dgn (dM xs ys) (nv xs * 2 ^ dsh ys / nv (dvs ys)))) = u32s (dgn (dM xs ys) (nv xs * 2 ^ dsh ys / nv (dvs ys))) := by rw [u32s_take, List.take_of_length_le (by rw [dgn_length]; exact Nat.le_refl _)]
  have e6 : List.take ys.length (u32s us) = u32s (dgn ys.length (nv xs * 2 ^ dsh ys % nv (dvs ys))) := by rw [u32s_take, hut]
  simp only [e5, e6, unu_u32s, hq1, hr1, dgn_length]
  exact ⟨⟨⟨u32s_nameless _, Nat.le_refl _⟩, ⟨trivial, trivial⟩, by omega⟩, ⟨by omega, by omega⟩, ⟨⟨u32s_nameless _, by omega⟩, ⟨trivial, trivial⟩, ⟨by omega, dgn_dig _ _⟩, by omega, by omega⟩, ⟨trivial, trivial⟩, trivial, trivial⟩
def ent_gdivA : Ent := fun ds => match ds with
  | [.ro n_xs ys_xs, .ro n_ys ys_ys] => some (.tup [.ro (dg (nv (unu ys_xs) / nv (unu ys_ys))).length (u32s (dg (nv (unu ys_xs) / nv (unu ys_ys)))), .ro (dg (nv (unu ys_xs) % nv (unu ys_ys))).length (u32s (dg (nv (unu ys_xs) % nv (unu ys_ys))))], (ys_ys = u32s (unu ys_ys) ∧ n_ys = (unu ys_ys).length) ∧ (ys_xs = u32s (unu ys_xs) ∧ n_xs = (unu ys_xs).length) ∧ dHyp2 (unu ys_xs) (unu ys_ys) ∧ nv (unu ys_ys) ≤ nv (unu ys_xs))
  | _ => none
theorem ent_gdivA_ok : EntOk Try.prog 55 ent_gdivA := by
  intro ds d c h hc; unfold ent_gdivA at h; split at h
  · rename_i n_xs ys_xs n_ys ys_ys; obtain ⟨rfl, rfl⟩ := pair_inj h
    obtain ⟨⟨h1, h2⟩, hc⟩ := hc; subst h2; generalize (unu ys_ys) = ys at *; subst h1
    obtain ⟨⟨h1, h2⟩, hc⟩ := hc; subst h2; generalize (unu ys_xs) = xs at *; subst h1
    exact gdivA_pure xs ys hc
  · cases h
theorem gdiv_pure (xs ys : List Nat) (hpre : dHyp xs ys) : PureJ Try.prog 55 [.ro xs.length (u32s xs), .ro ys.length (u32s ys)] (.tup [.ro (dg (nv xs / nv ys)).length (u32s (dg (nv xs / nv ys))), .ro (dg (nv xs % nv ys)).length (u32s (dg (nv xs % nv ys)))]) := by
  rcases Nat.lt_or_ge (nv xs) (nv ys) with h | h
  · exact gdivB_pure xs ys ⟨hpre, h⟩
  · by_cases h1 : ys.length = 1
    · exact gdivC_pure xs ys ⟨hpre, h, h1⟩
    · refine gdivA_pure xs ys ⟨⟨hpre, ?_, ?_⟩, h⟩
      · obtain ⟨⟨_, gx, gy⟩, h0⟩ := hpre
        rcases Nat.eq_zero_or_pos ys.length with h2 | h2
        · have : ys = [] := List.eq_nil_of_length_eq_zero h2
          subst this
          rw [nv] at h0; omega
        · omega
      · obtain ⟨⟨_, gx, gy⟩, h0⟩ := hpre
        have := dg_len_mono h
        rw [← gx, ← gy] at this
        exact this
def ent_gdiv : Ent := fun ds => match ds with
  | [.ro n1 y1, .ro n2 y2] => some (.tup [.ro (dg (nv (unu y1) / nv (unu y2))).length (u32s (dg (nv (unu y1) / nv (unu y2)))), .ro (dg (nv (unu y1) % nv (unu y2))).length (u32s (dg (nv (unu y1) % nv (unu y2))))],
      ((y1 = u32s (unu y1) ∧ n1 = (unu y1).length) ∧ (y2 = u32s (unu y2) ∧ n2 = (unu y2).length)) ∧ dHyp (unu y1) (unu y2))
  | _ => none
theorem ent_gdiv_ok : EntOk Try.prog 55 ent_gdiv := by
  intro ds d c h hc; unfold ent_gdiv at h; split at h
  · rename_i n1 y1 n2 y2; obtain ⟨rfl, rfl⟩ := pair_inj h
    obtain ⟨⟨⟨h1, h2⟩, h3, h4⟩, hc⟩ := hc
    subst h2; subst h4
    generalize unu y1 = xs at *
    generalize unu y2 = ys at *
    subst h1; subst h3
    exact gdiv_pure xs ys hc
  · cases h
theorem dvg_val {xn yn : Bool} {xs ys L : List Nat} {Q R : Nat} (hY : 0 < nv ys) (hL : trimL L = dg Q) (hR : R < nv ys) (hQ : (dg Q).length ≤ 400) (hy : (dg R).length ≤ 400)
    (h : (if xn then -(nv xs : Int) else nv xs) = (Q : Int) * (if xn then -1 else 1) * nv ys + R) :
    resG (madeN (xn != yn) L) (dg Q) = ((dvS true false (iv xn xs) (iv yn ys)).1.1, (dvS true false (iv xn xs) (iv yn ys)).1.2, 0) ∧ madeN false (dg R) = (dvS true false (iv xn xs) (iv yn ys)).2.1.1 ∧ dg R = (dvS true false (iv xn xs) (iv yn ys)).2.1.2 := by
  obtain ⟨e1, e2⟩ := ediv_at (yn := yn) hY hR h
  have hv : iv xn xs / iv yn ys = (if (xn != yn) then -(Q : Int) else Q) := e1
  have hr : iv xn xs % iv yn ys = (R : Int) := e2
  have m1 := madeN_of hL (xn != yn)
  have m2 := madeN_dg false R
  have d1 : decide (iv xn xs / iv yn ys < 0) = ((xn != yn) && decide (Q ≠ 0)) := by
    rw [hv]; clear hr hv e1 e2 h m1 m2; cases (xn != yn) <;> rw [Bool.eq_iff_iff] <;> simp <;> omega
  have d2 : ofL (iv xn xs / iv yn ys) = dg Q := by rw [hv]; unfold ofL; cases (xn != yn) <;> simp
  have d3 : ofL (iv xn xs % iv yn ys) = dg R := by rw [hr]; unfold ofL; simp
  unfold resG dvS
  simp only [hQ, decide_true, cond_true, cond_false, d1, d2, d3, m1, m2.1, Bool.false_and, and_self]
theorem gDivide_pure (xn : Bool) (xs : List Nat) (yn : Bool) (ys : List Nat) (hpre : LenOk xs ∧ LenOk ys) : PureJ Try.prog 14 [.agg [.v (.bool xn), .ro xs.length (u32s xs)], .agg [.v (.bool yn), .ro ys.length (u32s ys)]] (d_dv (dvS (validL xn xs && validL yn ys) (decide (nv ys = 0)) (iv xn xs) (iv yn ys))) := by
  refine pureJ_of_vcpN (call := (addPure 21 ent_Valid (addPure 55 ent_gdiv (addPure 56 ent_trim (addPure 57 ent_plus (addPure 58 ent_minus (addPure 60 ent_made (addPure 59 ent_gresult noCalls)))))))) (lp := fun _ => none) (N := 10) T_ok mixed (addPure_ok ent_Valid_ok (addPure_ok ent_gdiv_ok (addPure_ok ent_trim_ok (addPure_ok ent_plus_ok (addPure_ok ent_minus_ok (addPure_ok ent_made_ok (addPure_ok ent_gresult_ok noCalls_ok))))))) Try.func14 rfl (by decide) (by kernel_rfl) (by kernel_rfl) (LpAllP.none _) (by (simp [NamelessL, Nameless, d_dv, d_int, u32s_nameless]; done)) (by (simp [NamelessL, Nameless, d_dv, d_int, u32s_nameless]; done)) ?_
  refine of_eq (B := letI z7 := (dvS ((validL xn xs) && (validL yn ys)) (Decidable.decide ((nv ys) = (0 : Nat))) (iv xn xs) (iv yn ys)); letI z42 := (Prod.snd (Prod.fst z7)); letI z31 := (Prod.fst (Prod.snd z7)); letI z0 := (D.tup [(D.agg [(D.v (Value.bool (Prod.fst (Prod.fst z7)))), (D.ro (List.length z42) (u32s z42))]), (D.agg [(D.v (Value.bool (Prod.fst z31))), (D.ro (List.length (Prod.snd z31)) (u32s (Prod.snd z31)))]), (D.v (Value.int IntKind.i64 (Prod.snd (Prod.snd z7))))]); letI z46 := ((0 : Nat) < (2 : Nat)); letI z19 := (z46 ∧ (IsBool (D.v (Value.bool xn)))); letI z28 := (z46 ∧ (IsBool (D.v (Value.bool yn)))); letI z16 := (unu (u32s xs)); letI z10 := (unu (u32s ys)); letI z29 := (dg ((nv z16) / (nv z10))); letI z2 := (unu (u32s z29)); letI z38 := List.length z2; letI z20 := (((u32s z29) = (u32s z2)) ∧ ((List.length z29) = z38)); letI z22 := (1000000 : Nat); letI z26 := (unu (u32s (trimL z2))); letI z9 := ((2 : Nat) ≤ (2 : Nat)); letI z5 := (((2 : Nat) = (2 : Nat)) ∧ z9); letI z15 := (resG (madeN (!(xn == yn)) z2) z26); letI z35 := Prod.snd z15; letI z21 := (z9 ∧ (z9 ∧ True)); letI z40 := (True ∧ (True ∧ True)); letI z8 := (z40 ∧ (z40 ∧ (True ∧ True))); letI z6 := (D.agg [(D.v (Value.bool Bool.false)), (D.ro (0 : Nat) ([] : List D))]); letI z39 := (dg ((nv z16) % (nv z10))); letI z3 := (u32s z39); letI z27 := (List.length (unu z3)); letI z12 := ((z3 = (u32s (unu z3))) ∧ ((List.length z39) = z27)); letI z43 := (z12 ∧ (z27 ≤ z22)); letI z45 := Bool.true = Bool.true; letI z37 := (List.length (trimL (unu z3))); letI z33 := (D.v (Value.int IntKind.i64 (0 : Int))); letI z1 := (True ∧ (z19 ∧ (True ∧ (z28 ∧ (True ∧ (True ∧ ((z20 ∧ (z38 ≤ z22)) ∧ (((((u32s (trimL z2)) = (u32s z26)) ∧ ((List.length (trimL z2)) = (List.length z26))) ∧ ((List.length z26) ≤ z22)) ∧ (True ∧ (True ∧ (True ∧ (True ∧ (z5 ∧ (True ∧ (True ∧ (True ∧ (pcond ((Prod.snd z35) != (0 : Int)) (True ∧ (True ∧ (True ∧ (z5 ∧ (z5 ∧ (True ∧ (z21 ∧ (z8 ∧ ((D.tup [z6, z6, (D.v (Value.int IntKind.i64 (Prod.snd z35)))]) = z0))))))))) (z9 ∧ (True ∧ (z43 ∧ (z5 ∧ (z5 ∧ (True ∧ (z45 ∧ (z21 ∧ (z8 ∧ ((D.tup [(D.agg [(D.v (Value.bool (Prod.fst z15))), (D.ro (List.length (Prod.fst z35)) (u32s (Prod.fst z35)))]), (D.agg [(D.v (Value.bool (madeN Bool.false (unu z3)))), (D.ro z37 (u32s (trimL (unu z3))))]), z33]) = z0))))))))))))))))))))))))))); letI z11 := (D.v (Value.int IntKind.u32 (1 : Int))); letI z32 := (plusL z2 (unu [z11])); letI z4 := (unu (u32s z32)); letI z36 := (dg ((nv z10) - (nv (unu z3)))); letI z13 := (u32s z36); letI z25 := (unu (u32s (trimL z4))); letI z14 := (resG (madeN (!(xn == yn)) z4) z25); letI z17 := (True ∧ (True ∧ (z5 ∧ (z5 ∧ (True ∧ (z21 ∧ (z8 ∧ ((D.tup [z6, z6, (D.v (Value.int IntKind.i64 (1 : Int)))]) = z0)))))))); letI z30 := List.length z10; letI z18 := (((u32s ys) = (u32s z10)) ∧ ((List.length ys) = z30)); letI z23 := (((u32s xs) = (u32s z16)) ∧ ((List.length xs) = (List.length z16))); letI z24 := ((1 : Nat) < (2 : Nat)); letI z34 := Prod.snd z14; letI z41 := (400000 : Nat); letI z44 := (List.length (unu z13)); letI z47 := (1000000000000 : Nat); (True ∧ (True ∧ (True ∧ (True ∧ (True ∧ (z9 ∧ ((z23 ∧ ((List.length z16) ≤ z47)) ∧ (True ∧ (True ∧ (pcond (!(validL xn z16)) (True ∧ z17) (z9 ∧ ((z18 ∧ (z30 ≤ z47)) ∧ (True ∧ (True ∧ (pcond (!(validL yn z10)) z17 (True ∧ (z24 ∧ (True ∧ (True ∧ (pcond ((((List.length ys) : Nat) : Int) == (0 : Int)) (True ∧ (True ∧ (z5 ∧ (z5 ∧ (True ∧ (z21 ∧ (z8 ∧ ((D.tup [z6, z6, (D.v (Value.int IntKind.i64 (21 : Int)))]) = z0)))))))) (True ∧ (z24 ∧ (True ∧ (z24 ∧ (((z23 ∧ z18) ∧ (dHyp z16 z10)) ∧ (True ∧ (True ∧ (True ∧ (True ∧ (True ∧ (True ∧ (z19 ∧ (True ∧ (pcond xn (True ∧ (z43 ∧ (True ∧ (True ∧ (True ∧ (pcond (Decidable.decide ((0 : Int) < ((z37 : Nat) : Int))) (True ∧ ((((1 : Nat) ≤ (16777216 : Nat)) ∧ ((1 : Nat) ≤ (9223372036854775807 : Nat))) ∧ (((True ∧ (((NamelessL [z11]) ∧ (((0 : Nat) < (1 : Nat)) ∧ ((1 : Nat) ≤ (1 : Nat)))) ∧ True)) ∧ ((([z11] = (u32s (unu [z11]))) ∧ ((1 : Nat) = (1 : Nat))) ∧ (z20 ∧ ((z38 ≤ z41) ∧ (((1 : Nat) ≤ z41) ∧ ((Dig z2) ∧ (Dig (unu [z11])))))))) ∧ (True ∧ (True ∧ (z24 ∧ (True ∧ ((z12 ∧ (z18 ∧ (((z30 ≤ z41) ∧ ((z27 ≤ z30) ∧ ((Dig z10) ∧ (Dig (unu z3))))) ∧ ((nv (unu z3)) ≤ (nv z10))))) ∧ (True ∧ (True ∧ (z19 ∧ (True ∧ (z28 ∧ (True ∧ (True ∧ (((((u32s z32) = (u32s z4)) ∧ ((List.length z32) = (List.length z4))) ∧ ((List.length z4) ≤ z22)) ∧ (((((u32s (trimL z4)) = (u32s z25)) ∧ ((List.length (trimL z4)) = (List.length z25))) ∧ ((List.length z25) ≤ z22)) ∧ (True ∧ (True ∧ (True ∧ (True ∧ (z5 ∧ (True ∧ (True ∧ (True ∧ (pcond ((Prod.snd z34) != (0 : Int)) (True ∧ (True ∧ (True ∧ (z5 ∧ (z5 ∧ (True ∧ (z21 ∧ (z8 ∧ ((D.tup [z6, z6, (D.v (Value.int IntKind.i64 (Prod.snd z34)))]) = z0))))))))) (z9 ∧ (True ∧ ((((z13 = (u32s (unu z13))) ∧ ((List.length z36) = z44)) ∧ (z44 ≤ z22)) ∧ (z5 ∧ (z5 ∧ (True ∧ (z45 ∧ (z21 ∧ (z8 ∧ ((D.tup [(D.agg [(D.v (Value.bool (Prod.fst z14))), (D.ro (List.length (Prod.fst z34)) (u32s (Prod.fst z34)))]), (D.agg [(D.v (Value.bool (madeN Bool.false (unu z13)))), (D.ro (List.length (trimL (unu z13))) (u32s (trimL (unu z13))))]), z33]) = z0)))))))))))))))))))))))))))))))))))) z1)))))) (True ∧ z1)))))))))))))))))))))))))))))))))))) (by kernel_rfl) ?_
  simp only [true_and, and_true, and_self, IsInt_lit, IsBool_lit, IsStr_lit, Bool.not_eq_true', Bool.not_eq_false', Bool.not_true, Bool.not_false, Int.reduceLE, Int.reduceLT, Int.reduceNeg, Nat.le_refl, Int.le_refl, Nat.reduceLT, Nat.reduceLeDiff, Nat.reduceEqDiff, D.v.injEq, D.tup.injEq, D.agg.injEq, D.ro.injEq, List.cons.injEq, Value.int.injEq, Value.bool.injEq, pcond_true, pcond_false, NamelessL, Nameless, Nat.reduceMul, Nat.reduceAdd, Nat.zero_add, Int.toNat_natCast, unu_u32s]
  obtain ⟨⟨lx, dx⟩, ly, dy⟩ := hpre
  have hone : unu [D.v (Value.int IntKind.u32 1)] = [1] := unu_u32s [1]
  refine ⟨by omega, pcond_intro (fun h => ?_) (fun h => ⟨by omega, pcond_intro (fun h2 => ?_) (fun h2 => pcond_intro (fun h3 => ?_) (fun h3 => ?_))⟩)⟩
  · simp only [Bool.not_eq_true'] at h; simp [dvS, h, u32s]
  · simp only [Bool.not_eq_true', Bool.not_eq_false'] at h h2; simp [dvS, h, h2, u32s]
  · simp only [Bool.not_eq_false', beq_iff_eq] at h h2 h3
    have : ys = [] := List.eq_nil_of_length_eq_zero (by omega)
    subst this
    simp [dvS, h, h2, u32s, nv]
  · simp only [Bool.not_eq_false', beq_eq_false_iff_ne, ne_eq] at h h2 h3
    obtain ⟨gx, lx4⟩ := valid_good dx h
    obtain ⟨gy, ly4⟩ := valid_good dy h2
    have hY : 0 < nv ys := by
      rcases Nat.eq_zero_or_pos (nv ys) with h0 | h0
      · have e := gy.1
        rw [h0, dg_zero] at e
        rw [e] at h3; simp at h3
      · exact h0
    have hY0 : decide (nv ys = 0) = false := by simp; omega
    have hm := Nat.mod_lt (nv xs) hY
    have hdm := Nat.div_add_mod (nv xs) (nv ys)
    obtain ⟨l1, l2⟩ := dv_len (X := nv xs) hY
    have lrem : (dg (nv xs % nv ys)).length ≤ ys.length := by
      have := dg_len_mono (Nat.le_of_lt hm)
      rwa [← gy.1] at this
    rw [← gx.1] at l1 l2
    have hdv : ∀ (L : List Nat) (Q R : Nat), trimL L = dg Q → R < nv ys → (dg Q).length ≤ 400 → (dg R).length ≤ 400 → (if xn then -(nv xs : Int) else nv xs) = (Q : Int) * (if xn then -1 else 1) * nv ys + R →
        resG (madeN (xn != yn) L) (dg Q) = ((dvS true false (iv xn xs) (iv yn ys)).1.1, (dvS true false (iv xn xs) (iv yn ys)).1.2, 0) ∧ madeN false (dg R) = (dvS true false (iv xn xs) (iv yn ys)).2.1.1 ∧ dg R = (dvS true false (iv xn xs) (iv yn ys)).2.1.2 := fun L Q R h0 h1 h2 h3 h4 => dvg_val hY h0 h1 h2 h3 h4
    have hpos : ((nv xs : Nat) : Int) = ((nv xs / nv ys : Nat) : Int) * (nv ys : Int) + ((nv xs % nv ys : Nat) : Int) := by
      rw [← Int.natCast_mul, Nat.mul_comm (nv xs / nv ys)]; omega
    have hnb : (!xn == yn) = (xn != yn) := rfl
    have tdg : ∀ v, trimL (dg v) = dg v := fun v => (madeN_dg false v).2
    have tpl : trimL (plusL (dg (nv xs / nv ys)) [1]) = dg (nv xs / nv ys + 1) := by
      rw [trimL_plus (dg_dig _) (by simp [Dig]), nv_dg]; simp [nv]
    have lpl : (plusL (dg (nv xs / nv ys)) [1]).length ≤ 1000 := by
      have := plusL_len (dg (nv xs / nv ys)) [1]
      unfold plusM at this
      simp only [List.length_singleton] at this
      omega
    simp only [h, h2, hY0, Bool.and_self, hnb, nv_dg, hone, tdg, tpl]
    refine ⟨⟨⟨⟨by omega, by omega⟩, gx.1, gy.1⟩, hY⟩, pcond_intro (fun h4 => ⟨by omega, pcond_intro (fun h5 => ?_) (fun h5 => ?_)⟩) (fun h4 => ?_)⟩
    · simp only [decide_eq_true_eq] at h5
      have hR : nv xs % nv ys ≠ 0 := fun e => by rw [e, dg_zero] at h5; simp at h5
      have l4 := dg_len_mono (show nv ys - nv xs % nv ys ≤ nv ys by omega)
      rw [← gy.1] at l4
      obtain ⟨v1, v3, v4⟩ := hdv (plusL (dg (nv xs / nv ys)) [1]) (nv xs / nv ys + 1) (nv ys - nv xs % nv ys) tpl (by omega) (Nat.le_trans (l2 hR) lx4) (Nat.le_trans l4 ly4) (by
        subst h4
        simp only [if_true]
        have : ((nv xs / nv ys + 1 : Nat) : Int) * -1 * (nv ys : Int) = -(((nv xs / nv ys : Nat) : Int) * (nv ys : Int)) - (nv ys : Int) := by
          rw [Int.natCast_add]; exact neg_aux2 _ _
        rw [this]; omega)
      have l3 := l2 hR
      rw [v1, v3]
      refine ⟨⟨rfl, by omega, dg_dig _, by simp [Dig]⟩, ⟨⟨by omega, lrem, dy, dg_dig _⟩, by omega⟩, by omega, by omega, ?_⟩
      rw [show ((0 : Int) != 0) = false from rfl, pcond_false]
      refine ⟨by omega, ⟨rfl, rfl, rfl⟩, ⟨rfl, ?_⟩, rfl⟩
      rw [← v4]; exact ⟨rfl, rfl⟩
    · simp only [decide_eq_false_iff_not] at h5
      have hR : nv xs % nv ys = 0 := by
        refine Classical.byContradiction fun hne => ?_
        rw [dg_pos hne] at h5
        simp at h5
      rw [hR] at hpos ⊢
      obtain ⟨v1, v3, v4⟩ := hdv (dg (nv xs / nv ys)) (nv xs / nv ys) 0 (tdg _) hY (Nat.le_trans l1 lx4) (by rw [dg_zero]; simp) (by
        subst h4
        simp only [if_true]
        rw [hpos]
        exact neg_aux _ _)
      rw [v1, v3]
      refine ⟨by omega, by omega, ?_⟩
      rw [show ((0 : Int) != 0) = false from rfl, pcond_false]
      refine ⟨by rw [dg_zero]; simp, ⟨rfl, rfl, rfl⟩, ⟨rfl, ?_⟩, rfl⟩
      rw [← v4]; exact ⟨rfl, rfl⟩
    · obtain ⟨v1, v3, v4⟩ := hdv (dg (nv xs / nv ys)) (nv xs / nv ys) (nv xs % nv ys) (tdg _) hm (Nat.le_trans l1 lx4) (Nat.le_trans lrem ly4) (by
        subst h4
        simp only [Bool.false_eq_true, if_false, Int.mul_one]
        exact hpos)
      rw [v1, v3]
      refine ⟨by omega, by omega, ?_⟩
      rw [show ((0 : Int) != 0) = false from rfl, pcond_false]
      refine ⟨by omega, ⟨rfl, rfl, rfl⟩, ⟨rfl, ?_⟩, rfl⟩
      rw [← v4]; exact ⟨rfl, rfl⟩
def ent_gDivide : Ent := fun ds => match ds with
  | [.agg [.v (.bool xn), .ro n_xs ys_xs], .agg [.v (.bool yn), .ro n_ys ys_ys]] => some (d_dv (dvS (validL xn (unu ys_xs) && validL yn (unu ys_ys)) (decide (nv (unu ys_ys) = 0)) (iv xn (unu ys_xs)) (iv yn (unu ys_ys))), (ys_ys = u32s (unu ys_ys) ∧ n_ys = (unu ys_ys).length) ∧ (ys_xs = u32s (unu ys_xs) ∧ n_xs = (unu ys_xs).length) ∧ LenOk (unu ys_xs) ∧ LenOk (unu ys_ys))
  | _ => none
theorem ent_gDivide_ok : EntOk Try.prog 14 ent_gDivide := by
  intro ds d c h hc; unfold ent_gDivide at h; split at h
  · rename_i xn n_xs ys_xs yn n_ys ys_ys; obtain ⟨rfl, rfl⟩ := pair_inj h
    obtain ⟨⟨h1, h2⟩, hc⟩ := hc; subst h2; generalize (unu ys_ys) = ys at *; subst h1
    obtain ⟨⟨h1, h2⟩, hc⟩ := hc; subst h2; generalize (unu ys_xs) = xs at *; subst h1
    exact gDivide_pure _ xs _ ys hc
  · cases h
end Go.Proofs.Ythnhfkpihbjddaa
end
section
namespace Go.Proofs.Ythnhfkpihbjddaa
open Go.VD
set_option linter.unusedVariables false
set_option linter.unusedSimpArgs false
set_option maxRecDepth 100000
def d_ie (p : (Bool × List Nat) × Int) : D := .tup [d_int p.1.1 p.1.2, .v (.int .i64 p.2)]
def d_bx (neg : Bool) (xs : List Nat) : Option Blk := some ⟨24, [.v (.bool neg), .ro xs.length (u32s xs)], true⟩
def gcS (ok : Bool) (G : Nat) : (Bool × List Nat) × Int := bif ok then ((false, dg G), 0) else ((false, []), 1)
theorem sig_nat {G : Nat} (h : (dg G).length ≤ 400) : sigN false (dg G) = false ∧ sigL (dg G) = dg G ∧ sigE (dg G) = 0 := by
  have m := madeN_dg false G
  obtain ⟨s1, s2, s3⟩ := sig_ok (neg := false) (xs := dg G) (v := (G : Int)) (by rw [m.1]; simp) (by rw [m.2]; unfold ofL; simp)
  have l : (ofL (G : Int)).length ≤ 400 := by unfold ofL; simpa using h
  rw [s1, s2, s3]
  unfold okS
  simp only [l, decide_true, cond_true, and_true]
  refine ⟨by simp, by unfold ofL; simp⟩
theorem gcd_len {x y n : Nat} (hx : (dg x).length ≤ n) (hy : (dg y).length ≤ n) : (dg (Nat.gcd x y)).length ≤ n := by
  rcases Nat.eq_zero_or_pos x with h | h
  · subst h; rw [Nat.gcd_zero_left]; exact hy
  · exact Nat.le_trans (dg_len_mono (Nat.gcd_le_left y h)) hx
theorem hGcd_pure (xn : Bool) (xs : List Nat) (yn : Bool) (ys : List Nat) (hpre : LenOk xs ∧ LenOk ys) : PureJ Try.prog 17 [.agg [.v (.bool xn), .ro xs.length (u32s xs)], .agg [.v (.bool yn), .ro ys.length (u32s ys)]] (d_ie (gcS (validL xn xs && validL yn ys) (Nat.gcd (nv xs) (nv ys)))) := by
  refine pureJ_of_vcpN (call := (addPure 33 ent_iValid (addPure 62 ent_igcd (addPure 54 ent_isigned noCalls)))) (lp := fun _ => none) (N := 10) T_ok mixed (addPure_ok ent_iValid_ok (addPure_ok ent_igcd_ok (addPure_ok ent_isigned_ok noCalls_ok))) Try.func17 rfl (by decide) (by kernel_rfl) (by kernel_rfl) (LpAllP.none _) (by (simp [NamelessL, Nameless, d_ie, d_int, u32s_nameless]; done)) (by (simp [NamelessL, Nameless, d_ie, d_int, u32s_nameless]; done)) ?_
  refine of_eq (B := letI z3 := (gcS ((validL xn xs) && (validL yn ys)) (Nat.gcd (nv xs) (nv ys))); letI z12 := (Prod.snd (Prod.fst z3)); letI z0 := (D.tup [(D.agg [(D.v (Value.bool (Prod.fst (Prod.fst z3)))), (D.ro (List.length z12) (u32s z12))]), (D.v (Value.int IntKind.i64 (Prod.snd z3)))]); letI z8 := (unu (u32s xs)); letI z9 := (unu (u32s ys)); letI z1 := (dg (Nat.gcd (nv z8) (nv z9))); letI z4 := ((2 : Nat) ≤ (2 : Nat)); letI z11 := (((2 : Nat) = (2 : Nat)) ∧ z4); letI z10 := ((True ∧ (True ∧ True)) ∧ (True ∧ True)); letI z2 := (True ∧ (z11 ∧ (True ∧ ((z4 ∧ True) ∧ (z10 ∧ ((D.tup [(D.agg [(D.v (Value.bool Bool.false)), (D.ro (0 : Nat) ([] : List D))]), (D.v (Value.int IntKind.i64 (1 : Int)))]) = z0)))))); letI z5 := (((u32s xs) = (u32s z8)) ∧ ((List.length xs) = (List.length z8))); letI z6 := (((u32s ys) = (u32s z9)) ∧ ((List.length ys) = (List.length z9))); letI z7 := (unu (u32s z1)); letI z13 := ((1 : Nat) < (2 : Nat)); letI z14 := (1000000000000 : Nat); (True ∧ (True ∧ (True ∧ (True ∧ (z4 ∧ ((z5 ∧ ((List.length z8) ≤ z14)) ∧ (True ∧ (True ∧ (pcond (!(validL xn z8)) (True ∧ z2) (z4 ∧ ((z6 ∧ ((List.length z9) ≤ z14)) ∧ (True ∧ (True ∧ (pcond (!(validL yn z9)) z2 (True ∧ (z13 ∧ (True ∧ (z13 ∧ ((z6 ∧ (z5 ∧ (gcHyp z8 z9))) ∧ (((((u32s z1) = (u32s z7)) ∧ ((List.length z1) = (List.length z7))) ∧ ((List.length z7) ≤ (1000000 : Nat))) ∧ (True ∧ (True ∧ (z11 ∧ (True ∧ ((z4 ∧ True) ∧ (z10 ∧ ((D.tup [(D.agg [(D.v (Value.bool (sigN Bool.false z7))), (D.ro (List.length (sigL z7)) (u32s (sigL z7)))]), (D.v (Value.int IntKind.i64 (sigE z7)))]) = z0)))))))))))))))))))))))))))) (by kernel_rfl) ?_
  simp only [true_and, and_true, and_self, IsInt_lit, IsBool_lit, IsStr_lit, Bool.not_eq_true', Bool.not_eq_false', Bool.not_true, Bool.not_false, Int.reduceLE, Int.reduceLT, Int.reduceNeg, Nat.le_refl, Int.le_refl, Nat.reduceLT, Nat.reduceLeDiff, Nat.reduceEqDiff, D.v.injEq, D.tup.injEq, D.agg.injEq, D.ro.injEq, List.cons.injEq, Value.int.injEq, Value.bool.injEq, pcond_true, pcond_false, NamelessL, Nameless, Nat.reduceMul, Nat.reduceAdd, Nat.zero_add, Int.toNat_natCast, unu_u32s]
  obtain ⟨⟨lx, dx⟩, ly, dy⟩ := hpre
  refine ⟨by omega, pcond_intro (fun h => ?_) (fun h => ⟨by omega, pcond_intro (fun h2 => ?_) (fun h2 => ?_)⟩)⟩
  · simp only [Bool.not_eq_true'] at h; simp [gcS, h, u32s]
  · simp only [Bool.not_eq_true', Bool.not_eq_false'] at h h2; simp [gcS, h, h2, u32s]
  · simp only [Bool.not_eq_false'] at h h2
    obtain ⟨gx, lx4⟩ := valid_good dx h
    obtain ⟨gy, ly4⟩ := valid_good dy h2
    have lg : (dg ((nv xs).gcd (nv ys))).length ≤ 400 := gcd_len (by rw [← gx.1]; exact lx4) (by rw [← gy.1]; exact ly4)
    obtain ⟨s1, s2, s3⟩ := sig_nat lg
    rw [s1, s2, s3, h, h2]
    exact ⟨⟨⟨by omega, by omega⟩, gx.1, gy.1⟩, by omega, ⟨rfl, rfl, rfl⟩, rfl⟩
def ent_hGcd : Ent := fun ds => match ds with
  | [.agg [.v (.bool xn), .ro n_xs ys_xs], .agg [.v (.bool yn), .ro n_ys ys_ys]] => some (d_ie (gcS (validL xn (unu ys_xs) && validL yn (unu ys_ys)) (Nat.gcd (nv (unu ys_xs)) (nv (unu ys_ys)))), (ys_ys = u32s (unu ys_ys) ∧ n_ys = (unu ys_ys).length) ∧ (ys_xs = u32s (unu ys_xs) ∧ n_xs = (unu ys_xs).length) ∧ LenOk (unu ys_xs) ∧ LenOk (unu ys_ys))
  | _ => none
theorem ent_hGcd_ok : EntOk Try.prog 17 ent_hGcd := by
  intro ds d c h hc; unfold ent_hGcd at h; split at h
  · rename_i xn n_xs ys_xs yn n_ys ys_ys; obtain ⟨rfl, rfl⟩ := pair_inj h
    obtain ⟨⟨h1, h2⟩, hc⟩ := hc; subst h2; generalize (unu ys_ys) = ys at *; subst h1
    obtain ⟨⟨h1, h2⟩, hc⟩ := hc; subst h2; generalize (unu ys_xs) = xs at *; subst h1
    exact hGcd_pure _ xs _ ys hc
  · cases h
def lp_ggcdLoop (xn : Bool) (xs : List Nat) (yn : Bool) (ys : List Nat) : LoopO := loopRule (α := Nat × Nat) (β := Unit) [some 0, some 1, some 2] (fun s => Nat.gcd s.1 s.2 = Nat.gcd (nv xs) (nv ys) ∧ (dg s.1).length ≤ 1000 ∧ (dg s.2).length ≤ 1000) (fun s => [(4, .ptr 2 0), (6, d_l s.1), (7, d_l s.2)]) (fun s => [d_bx xn xs, d_bx yn ys, some ⟨24, [.v (.bool false), .v (.slice none 0 0)], true⟩]) ((nv xs, nv ys)) (fun _ => True) (fun _ => (.exit 0, [(4, .ptr 2 0), (6, d_l (Nat.gcd (nv xs) (nv ys)))], [d_bx xn xs, d_bx yn ys, some ⟨24, [.v (.bool false), .v (.slice none 0 0)], true⟩]))
theorem ggcdLoop_rule (xn : Bool) (xs : List Nat) (yn : Bool) (ys : List Nat) (hpre : LenOk xs ∧ LenOk ys) : LRuleP Try.prog Try.f18.ntmps (loopAt ((Try.f18.body).getD .skip) 4) (lp_ggcdLoop xn xs yn ys) := by
  refine lrule_of (α := Nat × Nat) (β := Unit) (call := (addPure 55 ent_gdiv (addPure 56 ent_trim noCalls))) (lp := fun _ => none) (N := 10) T_ok mixed (addPure_ok ent_gdiv_ok (addPure_ok ent_trim_ok noCalls_ok)) (fun s => s.2) (by kernel_rfl) (LpAllP.none _) ?_
  intro x hJ
  refine of_eq (B := letI z13 := (dg (Prod.fst x)); letI z5 := (u32s z13); letI z4 := (dg (Prod.snd x)); letI z11 := (unu (u32s z4)); letI z0 := (dg ((nv (unu z5)) % (nv z11))); letI z12 := (Exit.exit (0 : Nat)); letI z3 := (Prod.mk (4 : Nat) (D.ptr (2 : Nat) (0 : Nat))); letI z16 := (Nat.gcd (nv xs) (nv ys)); letI z15 := (D.v (Value.bool Bool.false)); letI z2 := (D.v (Value.slice (Option.none) (0 : Nat) (0 : Nat))); letI z8 := (Option.some (Blk.mk (24 : TypeId) [z15, z2] Bool.true)); letI z1 := (Prod.mk z12 (Prod.mk [z3, (Prod.mk (6 : Nat) (d_l z16))] [(d_bx xn xs), (d_bx yn ys), z8])); letI z6 := (Option.some (Blk.mk (24 : Nat) [(D.v (Value.bool xn)), (D.ro (List.length xs) (u32s xs))] Bool.true)); letI z7 := (Option.some (Blk.mk (24 : Nat) [(D.v (Value.bool yn)), (D.ro (List.length ys) (u32s ys))] Bool.true)); letI z9 := (Option.some (Blk.mk (24 : Nat) [z15, z2] Bool.true)); letI z10 := (unu (u32s z0)); letI z14 := List.length z4; letI z17 := (List (Option Nat)); (True ∧ (True ∧ (True ∧ (pcond (Decidable.decide ((0 : Int) < ((z14 : Nat) : Int))) (True ∧ (True ∧ (((((z5 = (u32s (unu z5))) ∧ ((List.length z13) = (List.length (unu z5)))) ∧ (((u32s z4) = (u32s z11)) ∧ (z14 = (List.length z11)))) ∧ (dHyp (unu z5) z11)) ∧ (True ∧ (True ∧ (True ∧ (True ∧ (True ∧ (True ∧ (True ∧ (((((u32s z0) = (u32s z10)) ∧ ((List.length z0) = (List.length z10))) ∧ ((List.length z10) ≤ (1000000 : Nat))) ∧ (True ∧ (True ∧ (∃ (y : (Prod Nat Nat)), (∃ (kp : z17), (((Prod.snd y) < (Prod.snd x)) ∧ ((((Nat.gcd (Prod.fst y) (Prod.snd y)) = z16) ∧ (((List.length (dg (Prod.fst y))) ≤ (1000 : Nat)) ∧ ((List.length (dg (Prod.snd y))) ≤ (1000 : Nat)))) ∧ (viewAll kp [z3, (Prod.mk (6 : Nat) (D.ro z14 (u32s z4))), (Prod.mk (7 : Nat) (D.ro (List.length (trimL z10)) (u32s (trimL z10))))] [z6, z7, z9] [z3, (Prod.mk (6 : Nat) (d_l (Prod.fst y))), (Prod.mk (7 : Nat) (d_l (Prod.snd y)))] [(d_bx xn xs), (d_bx yn ys), z8])))))))))))))))))) (∃ (r : Unit), (∃ (kp : z17), (True ∧ ((z12 = z12) ∧ (viewAll kp [z3, (Prod.mk (6 : Nat) (D.ro (List.length z13) z5))] [z6, z7, z9] (Prod.fst (Prod.snd ((fun (x_1 : Unit) => z1) r))) (Prod.snd (Prod.snd ((fun (x_1 : Unit) => z1) r))))))))))))) (by kernel_rfl) ?_
  obtain ⟨a, b⟩ := x
  obtain ⟨hg, la, lb⟩ := hJ
  simp only at hg la lb
  simp only [true_and, and_true, and_self, IsInt_lit, IsBool_lit, IsStr_lit, Bool.not_eq_true', Bool.not_eq_false', Bool.not_true, Bool.not_false, Int.reduceLE, Int.reduceLT, Int.reduceNeg, Nat.le_refl, Int.le_refl, Nat.reduceLT, Nat.reduceLeDiff, Nat.reduceEqDiff, D.v.injEq, D.tup.injEq, D.agg.injEq, D.ro.injEq, List.cons.injEq, Value.int.injEq, Value.bool.injEq, pcond_true, pcond_false, NamelessL, Nameless, Nat.reduceMul, Nat.reduceAdd, Nat.zero_add, Int.toNat_natCast, unu_u32s] at *
  refine pcond_intro (fun h => ?_) (fun h => ?_)
  · simp only [decide_eq_true_eq] at h
    have hb : 0 < b := by
      rcases Nat.eq_zero_or_pos b with h0 | h0
      · subst h0; rw [dg_zero] at h; simp at h
      · exact h0
    have hm := Nat.mod_lt a hb
    have l2 := dg_len_mono (Nat.le_of_lt hm)
    have ht : trimL (dg (a % b)) = dg (a % b) := (madeN_dg false _).2
    rw [nv_dg, nv_dg, ht]
    refine ⟨⟨⟨⟨by omega, by omega⟩, by rw [nv_dg], by rw [nv_dg]⟩, by rw [nv_dg]; exact hb⟩, by omega, (b, a % b), [some 0, some 1, some 2], hm, ⟨?_, lb, by simp only; omega⟩, ?_⟩
    · simp only
      rw [← hg, Nat.gcd_comm a b, Nat.gcd_rec b a, Nat.gcd_comm]
    · refine of_eq (B := letI z8 := (D.v (Value.bool Bool.false)); letI z3 := (D.v (Value.slice (Option.none) (0 : Nat) (0 : Nat))); letI z0 := (Option.some (Blk.mk (24 : Nat) [z8, z3] Bool.true)); letI z11 := (D.v (Value.bool xn)); letI z6 := (D.ro (List.length xs) (u32s xs)); letI z1 := (Option.some (Blk.mk (24 : Nat) [z11, z6] Bool.true)); letI z12 := (D.v (Value.bool yn)); letI z7 := (D.ro (List.length ys) (u32s ys)); letI z2 := (Option.some (Blk.mk (24 : Nat) [z12, z7] Bool.true)); letI z4 := (D.ro (List.length (dg (a % b))) (u32s (dg (a % b)))); letI z5 := (D.ro (List.length (dg b)) (u32s (dg b))); letI z9 := (D.ptr (2 : Nat) (0 : Nat)); letI z10 := ([] : List (Option Blk)); ((Bool.true = Bool.true) ∧ ((((z1 = z1) ∧ (NamelessL [z11, z6])) ∧ (((z2 = z2) ∧ (NamelessL [z12, z7])) ∧ (((z0 = z0) ∧ (NamelessL [z8, z3])) ∧ (z10 = z10)))) ∧ ((True ∧ (z9 = z9)) ∧ ((True ∧ (z5 = z5)) ∧ ((True ∧ (z4 = z4)) ∧ True)))))) (by kernel_rfl) ?_
      simp [NamelessL, Nameless, u32s_nameless]
  · have hb : b = 0 := by
      have h0 : (dg b).length = 0 := by simp at h; simp [h]
      have := nv_dg b
      rw [List.length_eq_zero_iff.1 h0] at this
      simpa [nv] using this.symm
    subst hb
    rw [Nat.gcd_zero_right] at hg
    rw [← hg]
    refine ⟨(), [some 0, some 1, some 2], ?_⟩
    refine of_eq (B := letI z7 := (D.v (Value.bool Bool.false)); letI z3 := (D.v (Value.slice (Option.none) (0 : Nat) (0 : Nat))); letI z0 := (Option.some (Blk.mk (24 : Nat) [z7, z3] Bool.true)); letI z10 := (D.v (Value.bool xn)); letI z5 := (D.ro (List.length xs) (u32s xs)); letI z1 := (Option.some (Blk.mk (24 : Nat) [z10, z5] Bool.true)); letI z11 := (D.v (Value.bool yn)); letI z6 := (D.ro (List.length ys) (u32s ys)); letI z2 := (Option.some (Blk.mk (24 : Nat) [z11, z6] Bool.true)); letI z4 := (D.ro (List.length (dg a)) (u32s (dg a))); letI z8 := (D.ptr (2 : Nat) (0 : Nat)); letI z9 := ([] : List (Option Blk)); ((Bool.true = Bool.true) ∧ ((((z1 = z1) ∧ (NamelessL [z10, z5])) ∧ (((z2 = z2) ∧ (NamelessL [z11, z6])) ∧ (((z0 = z0) ∧ (NamelessL [z7, z3])) ∧ (z9 = z9)))) ∧ ((True ∧ (z8 = z8)) ∧ ((True ∧ (z4 = z4)) ∧ True))))) (by kernel_rfl) ?_
    simp [NamelessL, Nameless, u32s_nameless]
theorem gGcd_pure (xn : Bool) (xs : List Nat) (yn : Bool) (ys : List Nat) (hpre : LenOk xs ∧ LenOk ys) : PureJ Try.prog 18 [.agg [.v (.bool xn), .ro xs.length (u32s xs)], .agg [.v (.bool yn), .ro ys.length (u32s ys)]] (d_ie (gcS (validL xn xs && validL yn ys) (Nat.gcd (nv xs) (nv ys)))) := by
  refine pureJ_of_vcpN (call := (addPure 21 ent_Valid (addPure 56 ent_trim (addPure 60 ent_made noCalls)))) (lp := fun k => bif Nat.beq k 4 then some (lp_ggcdLoop xn xs yn ys) else none) (N := 10) T_ok mixed (addPure_ok ent_Valid_ok (addPure_ok ent_trim_ok (addPure_ok ent_made_ok noCalls_ok))) Try.func18 rfl (by decide) (by kernel_rfl) (by kernel_rfl) (of_eq (B := LRuleP Try.prog Try.f18.ntmps (loopAt ((Try.f18.body).getD .skip) 4) (lp_ggcdLoop xn xs yn ys) ∧ True) (by kernel_rfl) ⟨ggcdLoop_rule xn xs yn ys hpre, trivial⟩) (by (simp [NamelessL, Nameless, d_ie, d_int, u32s_nameless]; done)) (by (simp [NamelessL, Nameless, d_ie, d_int, u32s_nameless]; done)) ?_
  refine of_eq (B := letI z2 := (Nat.gcd (nv xs) (nv ys)); letI z4 := (gcS ((validL xn xs) && (validL yn ys)) z2); letI z26 := (Prod.snd (Prod.fst z4)); letI z0 := (D.tup [(D.agg [(D.v (Value.bool (Prod.fst (Prod.fst z4)))), (D.ro (List.length z26) (u32s z26))]), (D.v (Value.int IntKind.i64 (Prod.snd z4)))]); letI z5 := ((2 : Nat) ≤ (2 : Nat)); letI z18 := (((2 : Nat) = (2 : Nat)) ∧ z5); letI z15 := ((True ∧ (True ∧ True)) ∧ (True ∧ True)); letI z13 := (D.v (Value.bool Bool.false)); letI z1 := (True ∧ (z18 ∧ (True ∧ ((z5 ∧ True) ∧ (z15 ∧ ((D.tup [(D.agg [z13, (D.ro (0 : Nat) ([] : List D))]), (D.v (Value.int IntKind.i64 (1 : Int)))]) = z0)))))); letI z14 := (D.v (Value.slice (Option.none) (0 : Nat) (0 : Nat))); letI z3 := (Option.some (Blk.mk (24 : Nat) [z13, z14] Bool.true)); letI z30 := (D.v (Value.bool xn)); letI z16 := (D.ro (List.length xs) (u32s xs)); letI z6 := (Option.some (Blk.mk (24 : Nat) [z30, z16] Bool.true)); letI z31 := (D.v (Value.bool yn)); letI z17 := (D.ro (List.length ys) (u32s ys)); letI z7 := (Option.some (Blk.mk (24 : Nat) [z31, z17] Bool.true)); letI z8 := (unu (u32s xs)); letI z9 := (unu (u32s ys)); letI z10 := (unu (u32s (dg z2))); letI z19 := List.length z8; letI z11 := (((u32s xs) = (u32s z8)) ∧ ((List.length xs) = z19)); letI z20 := List.length z9; letI z12 := (((u32s ys) = (u32s z9)) ∧ ((List.length ys) = z20)); letI z21 := (1000000 : Nat); letI z22 := (D.ptr (2 : Nat) (0 : Nat)); letI z23 := (List.length (dg (nv xs))); letI z24 := (List.length (dg (nv ys))); letI z25 := ([] : List (Option Blk)); letI z27 := ((1 : Nat) < (2 : Nat)); letI z28 := Bool.true = Bool.true; letI z29 := (1000000000000 : Nat); (True ∧ (True ∧ (True ∧ (True ∧ (z5 ∧ ((z11 ∧ (z19 ≤ z29)) ∧ (True ∧ (True ∧ (pcond (!(validL xn z8)) (True ∧ z1) (z5 ∧ ((z12 ∧ (z20 ≤ z29)) ∧ (True ∧ (True ∧ (pcond (!(validL yn z9)) z1 (True ∧ (z27 ∧ ((z11 ∧ (z19 ≤ z21)) ∧ (True ∧ (z27 ∧ ((z12 ∧ (z20 ≤ z21)) ∧ (True ∧ (True ∧ (z28 ∧ (((z2 = z2) ∧ ((z23 ≤ (1000 : Nat)) ∧ (z24 ≤ (1000 : Nat)))) ∧ ((z28 ∧ ((((z6 = z6) ∧ (NamelessL [z30, z16])) ∧ (((z7 = z7) ∧ (NamelessL [z31, z17])) ∧ (((z3 = z3) ∧ (NamelessL [z13, z14])) ∧ (z25 = z25)))) ∧ ((True ∧ (z22 = z22)) ∧ ((True ∧ ((D.ro (List.length (trimL z8)) (u32s (trimL z8))) = (D.ro z23 (u32s (dg (nv xs)))))) ∧ ((True ∧ ((D.ro (List.length (trimL z9)) (u32s (trimL z9))) = (D.ro z24 (u32s (dg (nv ys)))))) ∧ True))))) ∧ (Unit → (True → (True ∧ (((((u32s (dg z2)) = (u32s z10)) ∧ ((List.length (dg z2)) = (List.length z10))) ∧ ((List.length z10) ≤ z21)) ∧ (z18 ∧ (True ∧ ((z5 ∧ True) ∧ (z15 ∧ ((D.tup [(D.agg [(D.v (Value.bool (madeN Bool.false z10))), (D.ro (List.length (trimL z10)) (u32s (trimL z10)))]), (D.v (Value.int IntKind.i64 (0 : Int)))]) = z0))))))))))))))))))))))))))))))))))) (by kernel_rfl) ?_
  simp only [true_and, and_true, and_self, IsInt_lit, IsBool_lit, IsStr_lit, Bool.not_eq_true', Bool.not_eq_false', Bool.not_true, Bool.not_false, Int.reduceLE, Int.reduceLT, Int.reduceNeg, Nat.le_refl, Int.le_refl, Nat.reduceLT, Nat.reduceLeDiff, Nat.reduceEqDiff, D.v.injEq, D.tup.injEq, D.agg.injEq, D.ro.injEq, List.cons.injEq, Value.int.injEq, Value.bool.injEq, pcond_true, pcond_false, NamelessL, Nameless, Nat.reduceMul, Nat.reduceAdd, Nat.zero_add, Int.toNat_natCast, unu_u32s]
  obtain ⟨⟨lx, dx⟩, ly, dy⟩ := hpre
  refine ⟨by omega, pcond_intro (fun h => ?_) (fun h => ⟨by omega, pcond_intro (fun h2 => ?_) (fun h2 => ?_)⟩)⟩
  · simp only [Bool.not_eq_true'] at h; simp [gcS, h, u32s]
  · simp only [Bool.not_eq_true', Bool.not_eq_false'] at h h2; simp [gcS, h, h2, u32s]
  · simp only [Bool.not_eq_false'] at h h2
    obtain ⟨gx, lx4⟩ := valid_good dx h
    obtain ⟨gy, ly4⟩ := valid_good dy h2
    have lg : (dg ((nv xs).gcd (nv ys))).length ≤ 400 := gcd_len (by rw [← gx.1]; exact lx4) (by rw [← gy.1]; exact ly4)
    have m := madeN_dg false ((nv xs).gcd (nv ys))
    have tx : trimL xs = dg (nv xs) := trimL_dig dx
    have ty : trimL ys = dg (nv ys) := trimL_dig dy
    rw [m.1, m.2, tx, ty, h, h2, ← gx.1, ← gy.1]
    exact ⟨by omega, by omega, ⟨lx, ly⟩, ⟨⟨u32s_nameless _, u32s_nameless _⟩, ⟨rfl, rfl⟩, rfl, rfl⟩, fun _ _ => ⟨by omega, ⟨rfl, rfl, rfl⟩, rfl⟩⟩
def ent_gGcd : Ent := fun ds => match ds with
  | [.agg [.v (.bool xn), .ro n_xs ys_xs], .agg [.v (.bool yn), .ro n_ys ys_ys]] => some (d_ie (gcS (validL xn (unu ys_xs) && validL yn (unu ys_ys)) (Nat.gcd (nv (unu ys_xs)) (nv (unu ys_ys)))), (ys_ys = u32s (unu ys_ys) ∧ n_ys = (unu ys_ys).length) ∧ (ys_xs = u32s (unu ys_xs) ∧ n_xs = (unu ys_xs).length) ∧ LenOk (unu ys_xs) ∧ LenOk (unu ys_ys))
  | _ => none
theorem ent_gGcd_ok : EntOk Try.prog 18 ent_gGcd := by
  intro ds d c h hc; unfold ent_gGcd at h; split at h
  · rename_i xn n_xs ys_xs yn n_ys ys_ys; obtain ⟨rfl, rfl⟩ := pair_inj h
    obtain ⟨⟨h1, h2⟩, hc⟩ := hc; subst h2; generalize (unu ys_ys) = ys at *; subst h1
    obtain ⟨⟨h1, h2⟩, hc⟩ := hc; subst h2; generalize (unu ys_xs) = xs at *; subst h1
    exact gGcd_pure _ xs _ ys hc
  · cases h
end Go.Proofs.Ythnhfkpihbjddaa
end
section
namespace Go.Proofs.Ythnhfkpihbjddaa
open Go.VD
set_option linter.unusedVariables false
set_option linter.unusedSimpArgs false
set_option maxRecDepth 100000
theorem nv_of (a : Int) : nv (ofL a) = a.natAbs := by unfold ofL; exact nv_dg _
theorem vDivide_pure (a b : Int) (hpre : (ln a ≤ 400 ∧ ln b ≤ 400) ∧ b ≠ 0) : PureJ Try.prog 13 [d_val a, d_val b] (.tup [d_val (a / b), d_val (a % b), .v (.int .i64 0)]) := by
  have h := hDivide_pure (decide (a < 0)) (ofL a) (decide (b < 0)) (ofL b) ⟨lenOk_val hpre.1.1, lenOk_val hpre.1.2⟩
  rw [valid_val hpre.1.1, valid_val hpre.1.2, iv_of, iv_of, nv_of, decide_eq_false (show ¬ b.natAbs = 0 by omega)] at h
  have hm := Int.emod_nonneg a hpre.2
  have e : d_val (a % b) = d_int false (ofL (a % b)) := by unfold d_val d_int; rw [decide_eq_false (by omega)]
  rw [e]
  simp only [dvS, Bool.and_self, cond_true, cond_false] at h
  exact h
def entq_vDivide : EntQ := fun ds K => match ds with
  | [.agg [.v (.bool xn), .ro n1 y1], .agg [.v (.bool yn), .ro n2 y2]] => some (∃ a b : Int, (Cn xn n1 y1 a ∧ Cn yn n2 y2 b) ∧ ((ln a ≤ 400 ∧ ln b ≤ 400) ∧ b ≠ 0) ∧ ∀ q : Int, q = a / b → ∀ r : Int, r = a % b → K (.tup [d_val q, d_val r, .v (.int .i64 0)]))
  | _ => none
theorem entq_vDivide_ok : EntQOk Try.prog 13 entq_vDivide := by
  intro ds K p h hp; unfold entq_vDivide at h; split at h
  · injection h with h; subst h
    obtain ⟨a, b, ⟨⟨⟨rfl, rfl⟩, rfl⟩, ⟨⟨rfl, rfl⟩, rfl⟩⟩, hc, hk⟩ := hp
    exact ⟨_, vDivide_pure a b hc, hk _ rfl _ rfl⟩
  · cases h
theorem vGcd_pure (a b : Int) (hpre : ln a ≤ 400 ∧ ln b ≤ 400) : PureJ Try.prog 17 [d_val a, d_val b] (.tup [d_val (Int.gcd a b : Nat), .v (.int .i64 0)]) := by
  have h := hGcd_pure (decide (a < 0)) (ofL a) (decide (b < 0)) (ofL b) ⟨lenOk_val hpre.1, lenOk_val hpre.2⟩
  rw [valid_val hpre.1, valid_val hpre.2, nv_of, nv_of] at h
  have e : d_val (Int.gcd a b : Nat) = d_int false (dg (Nat.gcd a.natAbs b.natAbs)) := by
    unfold d_val d_int
    rw [decide_eq_false (by omega)]
    unfold ofL Int.gcd; simp
  rw [e]
  simp only [gcS, Bool.and_self, cond_true] at h
  exact h
def entq_vGcd : EntQ := fun ds K => match ds with
  | [.agg [.v (.bool xn), .ro n1 y1], .agg [.v (.bool yn), .ro n2 y2]] => some (∃ a b : Int, (Cn xn n1 y1 a ∧ Cn yn n2 y2 b) ∧ (ln a ≤ 400 ∧ ln b ≤ 400) ∧ ∀ g : Int, g = (Int.gcd a b : Nat) → K (.tup [d_val g, .v (.int .i64 0)]))
  | _ => none
theorem entq_vGcd_ok : EntQOk Try.prog 17 entq_vGcd := by
  intro ds K p h hp; unfold entq_vGcd at h; split at h
  · injection h with h; subst h
    obtain ⟨a, b, ⟨⟨⟨rfl, rfl⟩, rfl⟩, ⟨⟨rfl, rfl⟩, rfl⟩⟩, hc, hk⟩ := hp
    exact ⟨_, vGcd_pure a b hc, hk _ rfl⟩
  · cases h
theorem lawEuclid_pure (xn : Bool) (xs : List Nat) (yn : Bool) (ys : List Nat) (hpre : Dig xs ∧ Dig ys) : PureJ Try.prog 4 [.agg [.v (.bool xn), .ro xs.length (u32s xs)], .agg [.v (.bool yn), .ro ys.length (u32s ys)]] (.v (.bool true)) := by
  refine pureJ_of_vcx (call := (addPure 11 ent_known (addPure 12 ent_gLarge (addPure 21 ent_Valid (addQ 13 entq_vDivide (addQ 23 entq_vprod (addQ 22 entq_vsum (addQ 16 entq_vSame (addQ 25 entq_vCompare (addQ 26 entq_vSize (addQ 24 entq_vSign (addQ 17 entq_vGcd noCalls)))))))))))) (lp := fun _ => none) (N := 10) T_ok mixed (addPure_ok ent_known_ok (addPure_ok ent_gLarge_ok (addPure_ok ent_Valid_ok (addQ_ok entq_vDivide_ok (addQ_ok entq_vprod_ok (addQ_ok entq_vsum_ok (addQ_ok entq_vSame_ok (addQ_ok entq_vCompare_ok (addQ_ok entq_vSize_ok (addQ_ok entq_vSign_ok (addQ_ok entq_vGcd_ok noCalls_ok))))))))))) Try.func4 rfl (by decide) (by kernel_rfl) (by kernel_rfl) (LpAll.none _) (by first | trivial | (simp only [NamelessL, Nameless, and_self, and_true, true_and]; done) | (simp [NamelessL, Nameless, u32s_nameless, namelessL_ints]; done)) (by first | trivial | (simp only [NamelessL, Nameless, and_self, and_true, true_and]; done) | (simp [NamelessL, Nameless, u32s_nameless, namelessL_ints]; done)) ?_
  refine of_eq (B := letI z0 := ((2 : Nat) ≤ (2 : Nat)); letI z7 := (D.v (Value.bool Bool.true)); letI z1 := (True ∧ (True ∧ (True ∧ ((D.v (Value.bool Bool.false)) = z7)))); letI z2 := (True ∧ (True ∧ (True ∧ (z7 = z7)))); letI z3 := (((2 : Nat) = (2 : Nat)) ∧ z0); letI z4 := List.length ys; letI z14 := (unu (u32s xs)); letI z8 := List.length xs; letI z9 := (List.length z14); letI z5 := (((u32s xs) = (u32s z14)) ∧ (z8 = z9)); letI z15 := (unu (u32s ys)); letI z6 := (List.length z15); letI z10 := (((u32s ys) = (u32s z15)) ∧ (z4 = z6)); letI z11 := Bool.true = Bool.true; letI z12 := (True ∧ (True ∧ (True ∧ z2))); letI z13 := (True ∧ (True ∧ (True ∧ z1))); letI z16 := (True ∧ (z11 ∧ z1)); letI z17 := (1000000000000 : Nat); (True ∧ (True ∧ (True ∧ (True ∧ (True ∧ (z0 ∧ (z0 ∧ ((((4 : Nat) ≤ (16777216 : Nat)) ∧ ((2 : Nat) ≤ (9223372036854775807 : Nat))) ∧ (((((NamelessL [(D.v (Value.bool xn)), (D.ro z8 (u32s xs)), (D.v (Value.bool yn)), (D.ro z4 (u32s ys))]) ∧ (((0 : Nat) < (2 : Nat)) ∧ ((4 : Nat) ≤ (4 : Nat)))) ∧ True) ∧ (z10 ∧ (z5 ∧ True))) ∧ (True ∧ (pcond ((Decidable.decide ((40 : Nat) < z9)) || (Decidable.decide ((40 : Nat) < z6))) (True ∧ (True ∧ z12)) (z0 ∧ ((z5 ∧ (z9 ≤ z17)) ∧ (True ∧ (True ∧ (True ∧ (pcond (!(validL xn z14)) z12 (z0 ∧ ((z10 ∧ (z6 ≤ z17)) ∧ (True ∧ (True ∧ (True ∧ (pcond (!(validL yn z15)) (True ∧ z2) (True ∧ (((1 : Nat) < (2 : Nat)) ∧ (True ∧ (True ∧ (True ∧ (pcond (((z4 : Nat) : Int) == (0 : Int)) z2 (z0 ∧ (z0 ∧ (∃ (a : Int), (∃ (b : Int), (((Cn xn z8 (u32s xs) a) ∧ (Cn yn z4 (u32s ys) b)) ∧ (((((ln a) ≤ (400 : Nat)) ∧ ((ln b) ≤ (400 : Nat))) ∧ (b ≠ (0 : Int))) ∧ (∀ (q : Int), ((q = (a / b)) → (∀ (r : Int), ((r = (a % b)) → (True ∧ (True ∧ (True ∧ (True ∧ (True ∧ (True ∧ (z3 ∧ (z3 ∧ (True ∧ (True ∧ (True ∧ (True ∧ (z0 ∧ (z0 ∧ (∃ (a_1 : Int), (∃ (b_1 : Int), (((Cn (Decidable.decide (q < (0 : Int))) (List.length (ofL q)) (u32s (ofL q)) a_1) ∧ (Cn yn z4 (u32s ys) b_1)) ∧ (((((ln a_1) ≤ (400 : Nat)) ∧ ((ln b_1) ≤ (400 : Nat))) ∧ ((ln (a_1 * b_1)) ≤ (400 : Nat))) ∧ (z0 ∧ (∃ (a_2 : Int), (∃ (b_2 : Int), (((Cn (Decidable.decide ((a_1 * b_1) < (0 : Int))) (List.length (ofL (a_1 * b_1))) (u32s (ofL (a_1 * b_1))) a_2) ∧ (Cn (Decidable.decide (r < (0 : Int))) (List.length (ofL r)) (u32s (ofL r)) b_2)) ∧ (((((ln a_2) ≤ (400 : Nat)) ∧ ((ln b_2) ≤ (400 : Nat))) ∧ ((ln (a_2 + b_2)) ≤ (400 : Nat))) ∧ (z0 ∧ (∃ (a_3 : Int), (∃ (b_3 : Int), (((Cn (Decidable.decide ((a_2 + b_2) < (0 : Int))) (List.length (ofL (a_2 + b_2))) (u32s (ofL (a_2 + b_2))) a_3) ∧ (Cn xn z8 (u32s xs) b_3)) ∧ (((ln a_3) ≤ (400 : Nat)) ∧ (True ∧ (True ∧ (True ∧ (pcond (!(Decidable.decide (a_3 = b_3))) (True ∧ (True ∧ z16)) (z0 ∧ (∃ (a_4 : Int), ((Cn (Decidable.decide (r < (0 : Int))) (List.length (ofL r)) (u32s (ofL r)) a_4) ∧ (((ln a_4) ≤ (400 : Nat)) ∧ (True ∧ (True ∧ (True ∧ (pcond (Decidable.decide ((Int.sign a_4) < (0 : Int))) z16 (z0 ∧ (z0 ∧ (∃ (a_5 : Int), ((Cn yn z4 (u32s ys) a_5) ∧ (((ln a_5) ≤ (400 : Nat)) ∧ (∃ (a_6 : Int), (∃ (b_4 : Int), (((Cn (Decidable.decide (r < (0 : Int))) (List.length (ofL r)) (u32s (ofL r)) a_6) ∧ (Cn (Decidable.decide ((((Int.natAbs a_5) : Nat) : Int) < (0 : Int))) (List.length (ofL (((Int.natAbs a_5) : Nat) : Int))) (u32s (ofL (((Int.natAbs a_5) : Nat) : Int))) b_4)) ∧ ((((ln a_6) ≤ (400 : Nat)) ∧ ((ln b_4) ≤ (400 : Nat))) ∧ (True ∧ (True ∧ (z11 ∧ (pcond (Decidable.decide ((0 : Int) ≤ (cmpZ a_6 b_4))) z1 (z0 ∧ (z0 ∧ (∃ (a_7 : Int), (∃ (b_5 : Int), (((Cn xn z8 (u32s xs) a_7) ∧ (Cn yn z4 (u32s ys) b_5)) ∧ ((((ln a_7) ≤ (400 : Nat)) ∧ ((ln b_5) ≤ (400 : Nat))) ∧ (∀ (g : Int), ((g = (((Int.gcd a_7 b_5) : Nat) : Int)) → (True ∧ (True ∧ (True ∧ (True ∧ (z3 ∧ (True ∧ (z0 ∧ (z0 ∧ (∃ (a_8 : Int), (∃ (b_6 : Int), (((Cn yn z4 (u32s ys) a_8) ∧ (Cn (Decidable.decide (r < (0 : Int))) (List.length (ofL r)) (u32s (ofL r)) b_6)) ∧ ((((ln a_8) ≤ (400 : Nat)) ∧ ((ln b_6) ≤ (400 : Nat))) ∧ (∀ (g_1 : Int), ((g_1 = (((Int.gcd a_8 b_6) : Nat) : Int)) → (True ∧ (True ∧ (True ∧ (True ∧ (z3 ∧ (True ∧ (z0 ∧ (z0 ∧ (∃ (a_9 : Int), (∃ (b_7 : Int), (((Cn xn z8 (u32s xs) a_9) ∧ (Cn (Decidable.decide (g < (0 : Int))) (List.length (ofL g)) (u32s (ofL g)) b_7)) ∧ (((((ln a_9) ≤ (400 : Nat)) ∧ ((ln b_7) ≤ (400 : Nat))) ∧ (b_7 ≠ (0 : Int))) ∧ (∀ (q_1 : Int), ((q_1 = (a_9 / b_7)) → (∀ (r_1 : Int), ((r_1 = (a_9 % b_7)) → (True ∧ (True ∧ (True ∧ (True ∧ (True ∧ (True ∧ (z3 ∧ (z3 ∧ (True ∧ (z0 ∧ (z0 ∧ (∃ (a_10 : Int), (∃ (b_8 : Int), (((Cn yn z4 (u32s ys) a_10) ∧ (Cn (Decidable.decide (g < (0 : Int))) (List.length (ofL g)) (u32s (ofL g)) b_8)) ∧ (((((ln a_10) ≤ (400 : Nat)) ∧ ((ln b_8) ≤ (400 : Nat))) ∧ (b_8 ≠ (0 : Int))) ∧ (∀ (q_2 : Int), ((q_2 = (a_10 / b_8)) → (∀ (r_2 : Int), ((r_2 = (a_10 % b_8)) → (True ∧ (True ∧ (True ∧ (True ∧ (True ∧ (True ∧ (z3 ∧ (z3 ∧ (True ∧ (z0 ∧ (z0 ∧ (∃ (a_11 : Int), (∃ (b_9 : Int), (((Cn (Decidable.decide (g < (0 : Int))) (List.length (ofL g)) (u32s (ofL g)) a_11) ∧ (Cn (Decidable.decide (g_1 < (0 : Int))) (List.length (ofL g_1)) (u32s (ofL g_1)) b_9)) ∧ (((ln a_11) ≤ (400 : Nat)) ∧ (True ∧ (pcond (Decidable.decide (a_11 = b_9)) (True ∧ (True ∧ (True ∧ (True ∧ (True ∧ (True ∧ (True ∧ (True ∧ (z0 ∧ (∃ (a_12 : Int), ((Cn (Decidable.decide (r_1 < (0 : Int))) (List.length (ofL r_1)) (u32s (ofL r_1)) a_12) ∧ (((ln a_12) ≤ (400 : Nat)) ∧ (True ∧ (True ∧ (True ∧ (pcond ((Int.sign a_12) == (0 : Int)) (z0 ∧ (∃ (a_13 : Int), ((Cn (Decidable.decide (r_2 < (0 : Int))) (List.length (ofL r_2)) (u32s (ofL r_2)) a_13) ∧ (((ln a_13) ≤ (400 : Nat)) ∧ (True ∧ (True ∧ (True ∧ (pcond ((Int.sign a_13) == (0 : Int)) (z0 ∧ (∃ (a_14 : Int), ((Cn (Decidable.decide (g < (0 : Int))) (List.length (ofL g)) (u32s (ofL g)) a_14) ∧ (((ln a_14) ≤ (400 : Nat)) ∧ (True ∧ (True ∧ (True ∧ (True ∧ (True ∧ ((D.v (Value.bool (Decidable.decide ((0 : Int) < (Int.sign a_14))))) = z7)))))))))) (True ∧ z1))))))))) z13)))))))))))))))) (True ∧ (True ∧ (True ∧ (True ∧ (True ∧ (True ∧ z13))))))))))))))))))))))))))))))))))))))))))))))))))))))))))))))))))))))))))))))))))))))))))))))))))))))))))))))))))))))))))))))))))))))))))))))))))))))))))))))))))))))))))))) (by kernel_rfl) ?_
  simp only [true_and, and_true, and_self, IsInt_lit, IsBool_lit, IsStr_lit, Bool.not_eq_true', Bool.not_eq_false', Bool.not_true, Bool.not_false, Int.reduceLE, Int.reduceLT, Int.reduceNeg, Nat.le_refl, Int.le_refl, Nat.reduceLT, Nat.reduceLeDiff, Nat.reduceEqDiff, D.v.injEq, D.tup.injEq, D.agg.injEq, D.ro.injEq, List.cons.injEq, Value.int.injEq, Value.bool.injEq, pcond_true, pcond_false, NamelessL, Nameless, Nat.reduceMul, Nat.reduceAdd, Nat.zero_add, Int.toNat_natCast, unu_u32s]
  obtain ⟨dx, dy⟩ := hpre
  refine ⟨⟨u32s_nameless _, u32s_nameless _⟩, pcond_intro (fun _ => trivial) (fun h => ?_)⟩
  simp only [Bool.or_eq_false_iff, decide_eq_false_iff_not] at h
  refine ⟨by omega, pcond_intro (fun _ => trivial) (fun h1 => ⟨by omega, pcond_intro (fun _ => trivial) (fun h2 => pcond_intro (fun _ => trivial) (fun h3 => ?_))⟩)⟩
  simp only [Bool.not_eq_false'] at h1 h2
  obtain ⟨cx, lx⟩ := cn_valid dx h1
  obtain ⟨cy, ly⟩ := cn_valid dy h2
  generalize iv xn xs = X at *
  generalize iv yn ys = Y at *
  have lx : ln X ≤ 40 := by omega
  have hY : Y ≠ 0 := fun e => by
    subst e
    have : (ys.length : Int) ≠ 0 := by simpa using h3
    have h0 : ln 0 = 0 := by unfold ln ofL; simp [dg_zero]
    omega
  have ly : ln Y ≤ 40 := by omega
  clear h1 h2 h3 dx dy
  refine ⟨X, Y, ⟨cx, cy⟩, ⟨⟨by omega, by omega⟩, hY⟩, fun q eq r er => ?_⟩
  have r0 : 0 ≤ r := by rw [er]; exact Int.emod_nonneg X hY
  have r1 : r < (Y.natAbs : Int) := by rw [er]; exact Int.emod_lt X hY
  have hqr : q * Y + r = X := by rw [eq, er, Int.mul_comm]; exact Int.mul_ediv_add_emod X Y
  have lr : ln r ≤ 40 := Nat.le_trans (dg_len_mono (show r.natAbs ≤ Y.natAbs by omega)) ly
  have lq : ln q ≤ 40 := Nat.le_trans (dg_len_mono (by rw [eq]; exact Int.natAbs_ediv_le_natAbs X Y)) lx
  have lqy := ln_mul lq ly
  have ly2 : ln (Y.natAbs : Int) ≤ 40 := by unfold ln ofL at *; rw [Int.natAbs_natCast]; exact ly
  refine ⟨q, Y, ⟨Cn.self _, cy⟩, ⟨⟨by omega, by omega⟩, by omega⟩, q * Y, r, ⟨Cn.self _, Cn.self _⟩, ⟨⟨by omega, by omega⟩, by rw [hqr]; omega⟩, X, X, ⟨by rw [hqr]; exact Cn.self _, cx⟩, by omega, ?_⟩
  rw [decide_eq_true rfl, Bool.not_true, pcond_false]
  refine ⟨r, Cn.self _, by omega, ?_⟩
  rw [show decide (r.sign < 0) = false by rw [decide_eq_false_iff_not, Int.sign_neg_iff]; omega, pcond_false]
  refine ⟨Y, cy, by omega, r, (Y.natAbs : Int), ⟨Cn.self _, Cn.self _⟩, ⟨by omega, by omega⟩, ?_⟩
  rw [show decide (0 ≤ cmpZ r (Y.natAbs : Int)) = false by rw [decide_eq_false_iff_not]; unfold cmpZ; rw [if_pos r1]; omega, pcond_false]
  refine ⟨X, Y, ⟨cx, cy⟩, ⟨by omega, by omega⟩, fun g eg => ?_⟩
  have hg0 : 0 < g := by rw [eg]; exact Int.ofNat_lt.2 (Int.gcd_pos_of_ne_zero_right X hY)
  have lg : ln g ≤ 40 := by rw [eg]; exact gcd_len lx ly
  refine ⟨Y, r, ⟨cy, Cn.self _⟩, ⟨by omega, by omega⟩, fun g2 eg2 => ?_⟩
  have hgg : g2 = g := by
    rw [eg, eg2, ← hqr, Int.add_comm (q * Y), Int.gcd_add_mul_right_left, Int.gcd_comm]
  subst hgg
  have d1 : X % g2 = 0 := by rw [eg]; exact Int.emod_eq_zero_of_dvd (Int.gcd_dvd_left X Y)
  have d2 : Y % g2 = 0 := by rw [eg]; exact Int.emod_eq_zero_of_dvd (Int.gcd_dvd_right X Y)
  have l0 : ln 0 ≤ 400 := by unfold ln ofL; simp [dg_zero]
  refine ⟨X, g2, ⟨cx, Cn.self _⟩, ⟨⟨by omega, by omega⟩, by omega⟩, fun q1 _ r1 e1 => ?_⟩
  rw [d1] at e1
  subst e1
  refine ⟨Y, g2, ⟨cy, Cn.self _⟩, ⟨⟨by omega, by omega⟩, by omega⟩, fun q2 _ r2 e2 => ?_⟩
  rw [d2] at e2
  subst e2
  refine ⟨g2, g2, ⟨Cn.self _, Cn.self _⟩, by omega, ?_⟩
  rw [decide_eq_true rfl, pcond_true]
  refine ⟨0, Cn.self 0, l0, ?_⟩
  rw [show ((0 : Int).sign == 0) = true from rfl, pcond_true]
  refine ⟨0, Cn.self 0, l0, ?_⟩
  rw [show ((0 : Int).sign == 0) = true from rfl, pcond_true]
  refine ⟨g2, Cn.self _, by omega, ?_⟩
  rw [Int.sign_eq_one_of_pos hg0]
  rfl
def ent_lawEuclid : Ent := fun ds => match ds with
  | [.agg [.v (.bool xn), .ro n_xs ys_xs], .agg [.v (.bool yn), .ro n_ys ys_ys]] => some (.v (.bool true), (ys_ys = u32s (unu ys_ys) ∧ n_ys = (unu ys_ys).length) ∧ (ys_xs = u32s (unu ys_xs) ∧ n_xs = (unu ys_xs).length) ∧ Dig (unu ys_xs) ∧ Dig (unu ys_ys))
  | _ => none
theorem ent_lawEuclid_ok : EntOk Try.prog 4 ent_lawEuclid := by
  intro ds d c h hc; unfold ent_lawEuclid at h; split at h
  · rename_i xn n_xs ys_xs yn n_ys ys_ys; obtain ⟨rfl, rfl⟩ := pair_inj h
    obtain ⟨⟨h1, h2⟩, hc⟩ := hc; subst h2; generalize (unu ys_ys) = ys at *; subst h1
    obtain ⟨⟨h1, h2⟩, hc⟩ := hc; subst h2; generalize (unu ys_xs) = xs at *; subst h1
    exact lawEuclid_pure _ xs _ ys hc
  · cases h
end Go.Proofs.Ythnhfkpihbjddaa
end
