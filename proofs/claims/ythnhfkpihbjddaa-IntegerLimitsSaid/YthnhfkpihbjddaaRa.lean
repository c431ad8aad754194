/- The specification's integers: digits without leading zeros. -/
import Derived.Test.YthnhfkpihbjddaaVt
import Derived.Test.YthnhfkpihbjddaaEb
import Derived.Test.YthnhfkpihbjddaaEc
namespace Go.Proofs.Ythnhfkpihbjddaa
open Go.VD
set_option linter.unusedVariables false
set_option linter.unusedSimpArgs false
set_option maxRecDepth 100000

/-- how many digits stay -/
def tn (xs : List Nat) : Nat → Nat
  | 0 => 0
  | n + 1 => if xs.getD n 0 = 0 then tn xs n else n + 1
theorem tn_le (xs : List Nat) : ∀ n, tn xs n ≤ n
  | 0 => Nat.le_refl _
  | n + 1 => by
    simp only [tn]; split
    · exact Nat.le_succ_of_le (tn_le xs n)
    · exact Nat.le_refl _
def trimL (xs : List Nat) : List Nat := xs.take (tn xs xs.length)
theorem trimL_length (xs : List Nat) : (trimL xs).length = tn xs xs.length := by
  have := tn_le xs xs.length
  simp [trimL]; omega
def lp_trimLoop (xs : List Nat) : LoopO := loopRule (α := Nat) (β := Unit) [] (fun k => k ≤ xs.length ∧ tn xs k = tn xs xs.length) (fun k => [(0, .ro xs.length (u32s xs)), (3, .v (.int .i64 (k : Int)))]) (fun _ => []) (xs.length) (fun _ => True) (fun _ => (.exit 0, [(0, .ro xs.length (u32s xs)), (3, .v (.int .i64 (tn xs xs.length : Nat)))], []))
theorem trimLoop_rule (xs : List Nat) (hpre : xs.length ≤ 1000000) : LRuleP Try.prog Try.f56.ntmps (loopAt ((Try.f56.body).getD .skip) 2) (lp_trimLoop xs) := by
  refine lrule_of (α := Nat) (β := Unit) (call := noCalls) (lp := fun _ => none) (N := 10) T_ok mixed noCalls_ok (fun k => k) (by kernel_rfl) (LpAllP.none _) ?_
  intro x hJ
  refine of_eq (B := (True ∧ (True ∧ (True ∧ (pcond (Decidable.decide ((0 : Int) < ((x : Nat) : Int))) (True ∧ (True ∧ (True ∧ ((((0 : Int) ≤ (IntKind.wrap IntKind.i64 (((x : Nat) : Int) - (1 : Int)))) ∧ ((IntKind.wrap IntKind.i64 (((x : Nat) : Int) - (1 : Int))) < (((List.length xs) : Nat) : Int))) ∧ (((((Int.toNat (IntKind.wrap IntKind.i64 (((x : Nat) : Int) - (1 : Int)))) * (1 : Nat)) < (List.length (u32s xs))) ∧ (IsInt IntKind.u32 (List.getD (u32s xs) ((Int.toNat (IntKind.wrap IntKind.i64 (((x : Nat) : Int) - (1 : Int)))) * (1 : Nat)) (Inhabited.default)))) ∧ (True ∧ (True ∧ (pcond ((cellInt (List.getD (u32s xs) ((Int.toNat (IntKind.wrap IntKind.i64 (((x : Nat) : Int) - (1 : Int)))) * (1 : Nat)) (Inhabited.default))) == (0 : Int)) (True ∧ (True ∧ (True ∧ (∃ (y : Nat), (∃ (kp : (List (Option Nat))), ((y < x) ∧ (((y ≤ (List.length xs)) ∧ ((tn xs y) = (tn xs (List.length xs)))) ∧ (viewAll kp [(Prod.mk (0 : Nat) (D.ro (List.length xs) (u32s xs))), (Prod.mk (3 : Nat) (D.v (Value.int IntKind.i64 (IntKind.wrap IntKind.i64 (((x : Nat) : Int) - (1 : Int))))))] ([] : List (Option Blk)) [(Prod.mk (0 : Nat) (D.ro (List.length xs) (u32s xs))), (Prod.mk (3 : Nat) (D.v (Value.int IntKind.i64 ((y : Nat) : Int))))] ([] : List (Option Blk)))))))))) (∃ (r : Unit), (∃ (kp : (List (Option Nat))), (True ∧ (((Exit.exit (0 : Nat)) = (Exit.exit (0 : Nat))) ∧ (viewAll kp [(Prod.mk (0 : Nat) (D.ro (List.length xs) (u32s xs))), (Prod.mk (3 : Nat) (D.v (Value.int IntKind.i64 ((x : Nat) : Int))))] ([] : List (Option Blk)) (Prod.fst (Prod.snd ((fun (x_1 : Unit) => (Prod.mk (Exit.exit (0 : Nat)) (Prod.mk [(Prod.mk (0 : Nat) (D.ro (List.length xs) (u32s xs))), (Prod.mk (3 : Nat) (D.v (Value.int IntKind.i64 (((tn xs (List.length xs)) : Nat) : Int))))] ([] : List (Option Blk))))) r))) (Prod.snd (Prod.snd ((fun (x_1 : Unit) => (Prod.mk (Exit.exit (0 : Nat)) (Prod.mk [(Prod.mk (0 : Nat) (D.ro (List.length xs) (u32s xs))), (Prod.mk (3 : Nat) (D.v (Value.int IntKind.i64 (((tn xs (List.length xs)) : Nat) : Int))))] ([] : List (Option Blk))))) r)))))))))))))))) (True ∧ (∃ (r : Unit), (∃ (kp : (List (Option Nat))), (True ∧ (((Exit.exit (0 : Nat)) = (Exit.exit (0 : Nat))) ∧ (viewAll kp [(Prod.mk (0 : Nat) (D.ro (List.length xs) (u32s xs))), (Prod.mk (3 : Nat) (D.v (Value.int IntKind.i64 ((x : Nat) : Int))))] ([] : List (Option Blk)) (Prod.fst (Prod.snd ((fun (x_1 : Unit) => (Prod.mk (Exit.exit (0 : Nat)) (Prod.mk [(Prod.mk (0 : Nat) (D.ro (List.length xs) (u32s xs))), (Prod.mk (3 : Nat) (D.v (Value.int IntKind.i64 (((tn xs (List.length xs)) : Nat) : Int))))] ([] : List (Option Blk))))) r))) (Prod.snd (Prod.snd ((fun (x_1 : Unit) => (Prod.mk (Exit.exit (0 : Nat)) (Prod.mk [(Prod.mk (0 : Nat) (D.ro (List.length xs) (u32s xs))), (Prod.mk (3 : Nat) (D.v (Value.int IntKind.i64 (((tn xs (List.length xs)) : Nat) : Int))))] ([] : List (Option Blk))))) r)))))))))))))) (by kernel_rfl) ?_
  obtain ⟨hx, ht⟩ := hJ
  simp only [true_and, and_true, and_self, IsInt_lit, IsBool_lit, IsStr_lit, Bool.not_eq_true', Bool.not_eq_false', Bool.not_true, Bool.not_false, Int.reduceLE, Int.reduceLT, Int.reduceNeg, Nat.le_refl, Int.le_refl, Nat.reduceLT, Nat.reduceLeDiff, Nat.reduceEqDiff, D.v.injEq, D.tup.injEq, D.agg.injEq, D.ro.injEq, List.cons.injEq, Value.int.injEq, Value.bool.injEq, pcond_true, pcond_false, NamelessL, Nameless, Nat.reduceMul, Nat.reduceAdd, Nat.zero_add, Int.toNat_natCast]
  refine pcond_intro (fun h => ?_) (fun h => ⟨(), [], ?_⟩)
  · simp only [decide_eq_true_eq] at h
    obtain ⟨j, rfl⟩ : ∃ j, x = j + 1 := ⟨x - 1, by omega⟩
    have e : IntKind.i64.wrap (((j + 1 : Nat) : Int) - 1) = (j : Int) := by rw [wrap_i64_of (by omega) (by omega)]; omega
    simp only [e, Int.toNat_natCast, Nat.mul_one, u32s_cell, u32s_length, u32s_isInt _ _ (show j < xs.length by omega)]
    refine ⟨⟨by omega, by omega⟩, ⟨by omega, trivial⟩, pcond_intro (fun h2 => ⟨j, [], by omega, ⟨by omega, ?_⟩, ?_⟩) (fun h2 => ⟨(), [], ?_⟩)⟩
    · rw [← ht]; simp at h2; simp [tn, h2]
    · refine of_eq (B := ((Bool.true = Bool.true) ∧ ((([] : List (Option Blk)) = ([] : List (Option Blk))) ∧ ((True ∧ ((D.ro (List.length xs) (u32s xs)) = (D.ro (List.length xs) (u32s xs)))) ∧ ((True ∧ ((D.v (Value.int IntKind.i64 ((j : Nat) : Int))) = (D.v (Value.int IntKind.i64 ((j : Nat) : Int))))) ∧ True))))) (by kernel_rfl) ?_
      simp
    · refine of_eq (B := ((Bool.true = Bool.true) ∧ ((([] : List (Option Blk)) = ([] : List (Option Blk))) ∧ ((True ∧ ((D.ro (List.length xs) (u32s xs)) = (D.ro (List.length xs) (u32s xs)))) ∧ ((True ∧ ((D.v (Value.int IntKind.i64 (((j + (1 : Nat)) : Nat) : Int))) = (D.v (Value.int IntKind.i64 (((tn xs (List.length xs)) : Nat) : Int))))) ∧ True))))) (by kernel_rfl) ?_
      have : tn xs xs.length = j + 1 := by rw [← ht]; simp at h2; simp [tn, h2]
      simp [this]
  · refine of_eq (B := ((Bool.true = Bool.true) ∧ ((([] : List (Option Blk)) = ([] : List (Option Blk))) ∧ ((True ∧ ((D.ro (List.length xs) (u32s xs)) = (D.ro (List.length xs) (u32s xs)))) ∧ ((True ∧ ((D.v (Value.int IntKind.i64 ((x : Nat) : Int))) = (D.v (Value.int IntKind.i64 (((tn xs (List.length xs)) : Nat) : Int))))) ∧ True))))) (by kernel_rfl) ?_
    have : tn xs xs.length = x := by rw [← ht]; simp at h; subst h; rfl
    simp [this]
theorem trim_pure (xs : List Nat) (hpre : xs.length ≤ 1000000) : PureJ Try.prog 56 [.ro xs.length (u32s xs)] (.ro (trimL xs).length (u32s (trimL xs))) := by
  refine pureJ_of_vcp (call := noCalls) (lp := fun k => bif Nat.beq k 2 then some (lp_trimLoop xs) else none) (N := 10) T_ok mixed noCalls_ok Try.func56 rfl (by decide) (by kernel_rfl) (by kernel_rfl) (of_eq (B := LRuleP Try.prog Try.f56.ntmps (loopAt ((Try.f56.body).getD .skip) 2) (lp_trimLoop xs) ∧ True) (by kernel_rfl) ⟨trimLoop_rule xs hpre, trivial⟩) (by first | trivial | (simp only [NamelessL, Nameless, and_self, and_true, true_and]; done) | (simp [NamelessL, Nameless, u32s_nameless, namelessL_ints]; done)) (by first | trivial | (simp only [NamelessL, Nameless, and_self, and_true, true_and]; done) | (simp [NamelessL, Nameless, u32s_nameless, namelessL_ints]; done)) ?_
  refine of_eq (B := (True ∧ (True ∧ (True ∧ (True ∧ ((((List.length xs) ≤ (List.length xs)) ∧ ((tn xs (List.length xs)) = (tn xs (List.length xs)))) ∧ (((Bool.true = Bool.true) ∧ ((([] : List (Option Blk)) = ([] : List (Option Blk))) ∧ ((True ∧ ((D.ro (List.length xs) (u32s xs)) = (D.ro (List.length xs) (u32s xs)))) ∧ ((True ∧ ((D.v (Value.int IntKind.i64 (((List.length xs) : Nat) : Int))) = (D.v (Value.int IntKind.i64 (((List.length xs) : Nat) : Int))))) ∧ True)))) ∧ (Unit → (True → ((((0 : Nat) ≤ (16777216 : Nat)) ∧ ((0 : Nat) ≤ (9223372036854775807 : Nat))) ∧ (True ∧ (True ∧ ((True ∧ ((((0 : Int) ≤ (((tn xs (List.length xs)) : Nat) : Int)) ∧ ((((tn xs (List.length xs)) : Nat) : Int) ≤ (((List.length xs) : Nat) : Int))) ∧ True)) ∧ ((((((Int.toNat (((tn xs (List.length xs)) : Nat) : Int)) - (0 : Nat)) * (1 : Nat)) ≤ (List.length (List.take ((Int.toNat (((tn xs (List.length xs)) : Nat) : Int)) * (1 : Nat)) (u32s xs)))) ∧ (((22 : Nat) = (22 : Nat)) ∧ (((1 : Nat) = (1 : Nat)) ∧ (((41 : Nat) = (41 : Nat)) ∧ (((0 : Nat) ≤ (0 : Nat)) ∧ (((0 : Nat) < (1 : Nat)) ∧ ((((0 : Nat) + ((Int.toNat (((tn xs (List.length xs)) : Nat) : Int)) - (0 : Nat))) ≤ (9223372036854775807 : Nat)) ∧ ((((0 : Nat) + ((Int.toNat (((tn xs (List.length xs)) : Nat) : Int)) - (0 : Nat))) * (4 : Nat)) ≤ (140737488355328 : Nat))))))))) ∧ (True ∧ (True ∧ (((NamelessL (([] : List D) ++ (List.take (((Int.toNat (((tn xs (List.length xs)) : Nat) : Int)) - (0 : Nat)) * (1 : Nat)) (List.take ((Int.toNat (((tn xs (List.length xs)) : Nat) : Int)) * (1 : Nat)) (u32s xs))))) ∧ (((0 : Nat) < (1 : Nat)) ∧ (((0 : Nat) + (((0 : Nat) + ((Int.toNat (((tn xs (List.length xs)) : Nat) : Int)) - (0 : Nat))) * (1 : Nat))) ≤ (List.length (([] : List D) ++ (List.take (((Int.toNat (((tn xs (List.length xs)) : Nat) : Int)) - (0 : Nat)) * (1 : Nat)) (List.take ((Int.toNat (((tn xs (List.length xs)) : Nat) : Int)) * (1 : Nat)) (u32s xs)))))))) ∧ ((D.ro ((0 : Nat) + ((Int.toNat (((tn xs (List.length xs)) : Nat) : Int)) - (0 : Nat))) (List.take (((0 : Nat) + ((Int.toNat (((tn xs (List.length xs)) : Nat) : Int)) - (0 : Nat))) * (1 : Nat)) (List.drop (0 : Nat) (([] : List D) ++ (List.take (((Int.toNat (((tn xs (List.length xs)) : Nat) : Int)) - (0 : Nat)) * (1 : Nat)) (List.take ((Int.toNat (((tn xs (List.length xs)) : Nat) : Int)) * (1 : Nat)) (u32s xs))))))) = (D.ro (List.length (trimL xs)) (u32s (trimL xs))))))))))))))))))))) (by kernel_rfl) ?_
  have ht := tn_le xs xs.length
  simp only [true_and, and_true, and_self, IsInt_lit, IsBool_lit, IsStr_lit, Bool.not_eq_true', Bool.not_eq_false', Bool.not_true, Bool.not_false, Int.reduceLE, Int.reduceLT, Int.reduceNeg, Nat.le_refl, Int.le_refl, Nat.reduceLT, Nat.reduceLeDiff, Nat.reduceEqDiff, D.v.injEq, D.tup.injEq, D.agg.injEq, D.ro.injEq, List.cons.injEq, Value.int.injEq, Value.bool.injEq, pcond_true, pcond_false, NamelessL, Nameless, Nat.reduceMul, Nat.reduceAdd, Nat.zero_add, Int.toNat_natCast, Nat.mul_one, Nat.sub_zero, u32s_take, List.nil_append, List.drop_zero, List.take_take, Nat.min_self, u32s_length, List.length_take, trimL_length, u32s_nameless]
  exact fun _ _ => ⟨⟨by omega, by omega⟩, ⟨by omega, by omega, by omega⟩, by omega, rfl⟩
def ent_trim : Ent := fun ds => match ds with
  | [.ro n_xs ys_xs] => some (.ro (trimL (unu ys_xs)).length (u32s (trimL (unu ys_xs))), (ys_xs = u32s (unu ys_xs) ∧ n_xs = (unu ys_xs).length) ∧ (unu ys_xs).length ≤ 1000000)
  | _ => none
theorem ent_trim_ok : EntOk Try.prog 56 ent_trim := by
  intro ds d c h hc; unfold ent_trim at h; split at h
  · rename_i n_xs ys_xs; obtain ⟨rfl, rfl⟩ := pair_inj h
    obtain ⟨⟨h1, h2⟩, hc⟩ := hc; subst h2; generalize (unu ys_xs) = xs at *; subst h1
    exact trim_pure xs hc
  · cases h
end Go.Proofs.Ythnhfkpihbjddaa
