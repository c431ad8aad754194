/- The program's integers: trimming and copying of own blocks, reversal, for texts. (Written by gen_is.py.) -/
import Derived.Test.YtgilijgbljgekaaIr
namespace Go.Proofs.Ytgilijgbljgekaa
open Go.VD
set_option linter.unusedVariables false
set_option linter.unusedSimpArgs false
set_option maxRecDepth 100000

def lp_cutE (full : Bool) (zs : List Nat) (n : Nat) : LoopO := loopRuleD (α := Nat) (β := Unit) (fun k => k ≤ n ∧ tn zs k = tn zs n)
  (fun k => [(0, d_sE n), (3, .v (.int .i64 (k : Int)))])
  (fun k => d_zb full zs) n (fun _ => True) (fun _ => (.exit 0, [(0, d_sE n), (3, .v (.int .i64 (tn zs n : Nat)))], d_zb full zs))
theorem cutE_rule (full : Bool) (zs : List Nat) (n : Nat) (hpre : n ≤ zs.length ∧ zs.length ≤ 1000000) : LRule Try.prog Try.f54.ntmps (loopAt ((Try.f54.body).getD .skip) 2) (lp_cutE full zs n) := by
  refine lruleD_of (α := Nat) (β := Unit) (call := noCalls) (lp := fun _ => none) (N := 10) T_ok mixed noCalls_ok (fun k => k) (by kernel_rfl) (LpAll.none _) ?_
  intro x hJ
  refine of_eq (B := (True ∧ (True ∧ (True ∧ (pcond (Decidable.decide ((0 : Int) < ((x : Nat) : Int))) (True ∧ (True ∧ (True ∧ ((((0 : Int) ≤ (IntKind.wrap IntKind.i64 (((x : Nat) : Int) - (1 : Int)))) ∧ ((IntKind.wrap IntKind.i64 (((x : Nat) : Int) - (1 : Int))) < ((n : Nat) : Int))) ∧ (((((0 : Nat) + ((Int.toNat (IntKind.wrap IntKind.i64 (((x : Nat) : Int) - (1 : Int)))) * (1 : Nat))) < (List.length (u32s zs))) ∧ (IsInt IntKind.u32 (List.getD (u32s zs) ((0 : Nat) + ((Int.toNat (IntKind.wrap IntKind.i64 (((x : Nat) : Int) - (1 : Int)))) * (1 : Nat))) (Inhabited.default)))) ∧ (True ∧ (True ∧ (pcond ((cellInt (List.getD (u32s zs) ((0 : Nat) + ((Int.toNat (IntKind.wrap IntKind.i64 (((x : Nat) : Int) - (1 : Int)))) * (1 : Nat))) (Inhabited.default))) == (0 : Int)) (True ∧ (True ∧ (True ∧ (∃ (y : Nat), ((y < x) ∧ (((y ≤ n) ∧ ((tn zs y) = (tn zs n))) ∧ ((((Option.some (D.sl (0 : Nat) (0 : Nat) n (Cap.toEnd (1 : Nat)))) = (Option.some (D.sl (0 : Nat) (0 : Nat) n (Cap.toEnd (1 : Nat))))) ∧ (((Option.some (D.v (Value.int IntKind.i64 (IntKind.wrap IntKind.i64 (((x : Nat) : Int) - (1 : Int)))))) = (Option.some (D.v (Value.int IntKind.i64 ((y : Nat) : Int))))) ∧ True)) ∧ ([(Option.some (Blk.mk (48 : Nat) (u32s zs) full))] = [(Option.some (Blk.mk (48 : Nat) (u32s zs) full))])))))))) (∃ (r : Unit), (True ∧ (((Exit.exit (0 : Nat)) = (Exit.exit (0 : Nat))) ∧ ((((Option.some (D.sl (0 : Nat) (0 : Nat) n (Cap.toEnd (1 : Nat)))) = (Option.some (D.sl (0 : Nat) (0 : Nat) n (Cap.toEnd (1 : Nat))))) ∧ (((Option.some (D.v (Value.int IntKind.i64 ((x : Nat) : Int)))) = (Option.some (D.v (Value.int IntKind.i64 (((tn zs n) : Nat) : Int))))) ∧ True)) ∧ ([(Option.some (Blk.mk (48 : Nat) (u32s zs) full))] = [(Option.some (Blk.mk (48 : Nat) (u32s zs) full))]))))))))))))) (True ∧ (∃ (r : Unit), (True ∧ (((Exit.exit (0 : Nat)) = (Exit.exit (0 : Nat))) ∧ ((((Option.some (D.sl (0 : Nat) (0 : Nat) n (Cap.toEnd (1 : Nat)))) = (Option.some (D.sl (0 : Nat) (0 : Nat) n (Cap.toEnd (1 : Nat))))) ∧ (((Option.some (D.v (Value.int IntKind.i64 ((x : Nat) : Int)))) = (Option.some (D.v (Value.int IntKind.i64 (((tn zs n) : Nat) : Int))))) ∧ True)) ∧ ([(Option.some (Blk.mk (48 : Nat) (u32s zs) full))] = [(Option.some (Blk.mk (48 : Nat) (u32s zs) full))]))))))))))) (by kernel_rfl) ?_
  obtain ⟨hl, hb⟩ := hpre
  obtain ⟨hx, ht⟩ := hJ
  simp only [true_and, and_true, and_self, IsInt_lit, IsBool_lit, IsStr_lit, Bool.not_eq_true', Bool.not_eq_false', Bool.not_true, Bool.not_false, Int.reduceLE, Int.reduceLT, Int.reduceNeg, Nat.le_refl, Int.le_refl, Nat.reduceLT, Nat.reduceLeDiff, Nat.reduceEqDiff, D.v.injEq, D.tup.injEq, D.agg.injEq, D.ro.injEq, List.cons.injEq, Value.int.injEq, Value.bool.injEq, pcond_true, pcond_false, NamelessL, Nameless, Nat.reduceMul, Nat.reduceAdd, Nat.zero_add, Int.toNat_natCast]
  refine pcond_intro (fun h => ?_) (fun h => ?_)
  · simp only [decide_eq_true_eq] at h
    obtain ⟨j, rfl⟩ : ∃ j, x = j + 1 := ⟨x - 1, by omega⟩
    have e : IntKind.i64.wrap (((j + 1 : Nat) : Int) - 1) = (j : Int) := by rw [wrap_i64_of (by omega) (by omega)]; omega
    simp only [e, Int.toNat_natCast, Nat.mul_one, u32s_cell, u32s_length, u32s_isInt _ _ (show j < zs.length by omega)]
    refine ⟨⟨by omega, by omega⟩, ⟨by omega, trivial⟩, pcond_intro (fun h2 => ⟨j, by omega, ⟨by omega, ?_⟩, rfl⟩) (fun h2 => ⟨(), ?_⟩)⟩
    · rw [← ht]; simp at h2; simp [tn, h2]
    · have : tn zs n = j + 1 := by rw [← ht]; simp at h2; simp [tn, h2]
      simp [this]
  · have : tn zs n = x := by rw [← ht]; simp at h; subst h; rfl
    refine ⟨(), ?_⟩
    simp [this]
theorem cutE_nil (full : Bool) (zs : List Nat) (n : Nat) (hpre : n ≤ zs.length ∧ zs.length ≤ 1000000) (h0 : tn zs n = 0) : CallJ Try.prog 54 [d_sE n] (d_zb full zs) (.v (.slice none 0 0)) (d_zb full zs) := by
  refine callJ_same (call := noCalls) (lp := fun k' => bif Nat.beq k' 2 then some (lp_cutE full zs n) else none) (N := 10) T_ok mixed noCalls_ok Try.func54 rfl (by decide) (by kernel_rfl) (by kernel_rfl)
    (of_eq (B := LRule Try.prog Try.f54.ntmps (loopAt ((Try.f54.body).getD .skip) 2) (lp_cutE full zs n) ∧ True) (by kernel_rfl) ⟨cutE_rule full zs n hpre, trivial⟩) ?_
  refine of_eq (B := (True ∧ (True ∧ (True ∧ (True ∧ (((n ≤ n) ∧ ((tn zs n) = (tn zs n))) ∧ ((((Option.some (D.sl (0 : Nat) (0 : Nat) n (Cap.toEnd (1 : Nat)))) = (Option.some (D.sl (0 : Nat) (0 : Nat) n (Cap.toEnd (1 : Nat))))) ∧ (((Option.some (D.v (Value.int IntKind.i64 ((n : Nat) : Int)))) = (Option.some (D.v (Value.int IntKind.i64 ((n : Nat) : Int))))) ∧ True)) ∧ (([(Option.some (Blk.mk (48 : Nat) (u32s zs) full))] = [(Option.some (Blk.mk (48 : Nat) (u32s zs) full))]) ∧ (Unit → (True → (True ∧ (True ∧ (pcond ((((tn zs n) : Nat) : Int) == (0 : Int)) (True ∧ (True ∧ (((D.v (Value.slice (Option.none) (0 : Nat) (0 : Nat))) = (D.v (Value.slice (Option.none) (0 : Nat) (0 : Nat)))) ∧ ([(Option.some (Blk.mk (48 : Nat) (u32s zs) full))] = [(Option.some (Blk.mk (48 : Nat) (u32s zs) full))])))) (True ∧ (True ∧ (True ∧ (((True ∧ ((((0 : Int) ≤ (((tn zs n) : Nat) : Int)) ∧ ((((tn zs n) : Nat) : Int) ≤ (((Int.toNat (((tn zs n) : Nat) : Int)) : Nat) : Int))) ∧ (((0 : Int) ≤ (((tn zs n) : Nat) : Int)) ∧ (((((tn zs n) : Nat) : Int) ≤ ((n : Nat) : Int)) ∧ (Bool.true = Bool.true))))) ∧ ((1 : Nat) = (1 : Nat))) ∧ (True ∧ (True ∧ (((D.sl (0 : Nat) (0 : Nat) ((Int.toNat (((tn zs n) : Nat) : Int)) - (0 : Nat)) (Cap.exact ((Int.toNat (((tn zs n) : Nat) : Int)) - (0 : Nat)) (1 : Nat))) = (D.v (Value.slice (Option.none) (0 : Nat) (0 : Nat)))) ∧ ([(Option.some (Blk.mk (48 : Nat) (u32s zs) full))] = [(Option.some (Blk.mk (48 : Nat) (u32s zs) full))]))))))))))))))))))))) (by kernel_rfl) ?_
  simp only [true_and, and_true, and_self, IsInt_lit, IsBool_lit, IsStr_lit, Bool.not_eq_true', Bool.not_eq_false', Bool.not_true, Bool.not_false, Int.reduceLE, Int.reduceLT, Int.reduceNeg, Nat.le_refl, Int.le_refl, Nat.reduceLT, Nat.reduceLeDiff, Nat.reduceEqDiff, D.v.injEq, D.tup.injEq, D.agg.injEq, D.ro.injEq, List.cons.injEq, Value.int.injEq, Value.bool.injEq, pcond_true, pcond_false, NamelessL, Nameless, Nat.reduceMul, Nat.reduceAdd, Nat.zero_add, Int.toNat_natCast, h0]
  exact fun _ _ => pcond_intro (fun _ => trivial) (fun h => by simp at h)
theorem cutE_some (full : Bool) (zs : List Nat) (n : Nat) (hpre : n ≤ zs.length ∧ zs.length ≤ 1000000) (h0 : 0 < tn zs n) : CallJ Try.prog 54 [d_sE n] (d_zb full zs) (.sl 0 0 (tn zs n) (.exact (tn zs n) 1)) (d_zb full zs) := by
  refine callJ_same (call := noCalls) (lp := fun k' => bif Nat.beq k' 2 then some (lp_cutE full zs n) else none) (N := 10) T_ok mixed noCalls_ok Try.func54 rfl (by decide) (by kernel_rfl) (by kernel_rfl)
    (of_eq (B := LRule Try.prog Try.f54.ntmps (loopAt ((Try.f54.body).getD .skip) 2) (lp_cutE full zs n) ∧ True) (by kernel_rfl) ⟨cutE_rule full zs n hpre, trivial⟩) ?_
  refine of_eq (B := (True ∧ (True ∧ (True ∧ (True ∧ (((n ≤ n) ∧ ((tn zs n) = (tn zs n))) ∧ ((((Option.some (D.sl (0 : Nat) (0 : Nat) n (Cap.toEnd (1 : Nat)))) = (Option.some (D.sl (0 : Nat) (0 : Nat) n (Cap.toEnd (1 : Nat))))) ∧ (((Option.some (D.v (Value.int IntKind.i64 ((n : Nat) : Int)))) = (Option.some (D.v (Value.int IntKind.i64 ((n : Nat) : Int))))) ∧ True)) ∧ (([(Option.some (Blk.mk (48 : Nat) (u32s zs) full))] = [(Option.some (Blk.mk (48 : Nat) (u32s zs) full))]) ∧ (Unit → (True → (True ∧ (True ∧ (pcond ((((tn zs n) : Nat) : Int) == (0 : Int)) (True ∧ (True ∧ (((D.v (Value.slice (Option.none) (0 : Nat) (0 : Nat))) = (D.sl (0 : Nat) (0 : Nat) (tn zs n) (Cap.exact (tn zs n) (1 : Nat)))) ∧ ([(Option.some (Blk.mk (48 : Nat) (u32s zs) full))] = [(Option.some (Blk.mk (48 : Nat) (u32s zs) full))])))) (True ∧ (True ∧ (True ∧ (((True ∧ ((((0 : Int) ≤ (((tn zs n) : Nat) : Int)) ∧ ((((tn zs n) : Nat) : Int) ≤ (((Int.toNat (((tn zs n) : Nat) : Int)) : Nat) : Int))) ∧ (((0 : Int) ≤ (((tn zs n) : Nat) : Int)) ∧ (((((tn zs n) : Nat) : Int) ≤ ((n : Nat) : Int)) ∧ (Bool.true = Bool.true))))) ∧ ((1 : Nat) = (1 : Nat))) ∧ (True ∧ (True ∧ (((D.sl (0 : Nat) (0 : Nat) ((Int.toNat (((tn zs n) : Nat) : Int)) - (0 : Nat)) (Cap.exact ((Int.toNat (((tn zs n) : Nat) : Int)) - (0 : Nat)) (1 : Nat))) = (D.sl (0 : Nat) (0 : Nat) (tn zs n) (Cap.exact (tn zs n) (1 : Nat)))) ∧ ([(Option.some (Blk.mk (48 : Nat) (u32s zs) full))] = [(Option.some (Blk.mk (48 : Nat) (u32s zs) full))]))))))))))))))))))))) (by kernel_rfl) ?_
  have ht := tn_le zs n
  simp only [true_and, and_true, and_self, IsInt_lit, IsBool_lit, IsStr_lit, Bool.not_eq_true', Bool.not_eq_false', Bool.not_true, Bool.not_false, Int.reduceLE, Int.reduceLT, Int.reduceNeg, Nat.le_refl, Int.le_refl, Nat.reduceLT, Nat.reduceLeDiff, Nat.reduceEqDiff, D.v.injEq, D.tup.injEq, D.agg.injEq, D.ro.injEq, List.cons.injEq, Value.int.injEq, Value.bool.injEq, pcond_true, pcond_false, NamelessL, Nameless, Nat.reduceMul, Nat.reduceAdd, Nat.zero_add, Int.toNat_natCast]
  intro _ _
  refine pcond_intro (fun h => ?_) (fun h => ⟨⟨by omega, by omega, by omega⟩, rfl⟩)
  simp at h; omega
def lp_cutX (full : Bool) (zs : List Nat) (n : Nat) : LoopO := loopRuleD (α := Nat) (β := Unit) (fun k => k ≤ n ∧ tn zs k = tn zs n)
  (fun k => [(0, d_sX n), (3, .v (.int .i64 (k : Int)))])
  (fun k => d_zb full zs) n (fun _ => True) (fun _ => (.exit 0, [(0, d_sX n), (3, .v (.int .i64 (tn zs n : Nat)))], d_zb full zs))
theorem cutX_rule (full : Bool) (zs : List Nat) (n : Nat) (hpre : n ≤ zs.length ∧ zs.length ≤ 1000000) : LRule Try.prog Try.f54.ntmps (loopAt ((Try.f54.body).getD .skip) 2) (lp_cutX full zs n) := by
  refine lruleD_of (α := Nat) (β := Unit) (call := noCalls) (lp := fun _ => none) (N := 10) T_ok mixed noCalls_ok (fun k => k) (by kernel_rfl) (LpAll.none _) ?_
  intro x hJ
  refine of_eq (B := (True ∧ (True ∧ (True ∧ (pcond (Decidable.decide ((0 : Int) < ((x : Nat) : Int))) (True ∧ (True ∧ (True ∧ ((((0 : Int) ≤ (IntKind.wrap IntKind.i64 (((x : Nat) : Int) - (1 : Int)))) ∧ ((IntKind.wrap IntKind.i64 (((x : Nat) : Int) - (1 : Int))) < ((n : Nat) : Int))) ∧ (((((0 : Nat) + ((Int.toNat (IntKind.wrap IntKind.i64 (((x : Nat) : Int) - (1 : Int)))) * (1 : Nat))) < (List.length (u32s zs))) ∧ (IsInt IntKind.u32 (List.getD (u32s zs) ((0 : Nat) + ((Int.toNat (IntKind.wrap IntKind.i64 (((x : Nat) : Int) - (1 : Int)))) * (1 : Nat))) (Inhabited.default)))) ∧ (True ∧ (True ∧ (pcond ((cellInt (List.getD (u32s zs) ((0 : Nat) + ((Int.toNat (IntKind.wrap IntKind.i64 (((x : Nat) : Int) - (1 : Int)))) * (1 : Nat))) (Inhabited.default))) == (0 : Int)) (True ∧ (True ∧ (True ∧ (∃ (y : Nat), ((y < x) ∧ (((y ≤ n) ∧ ((tn zs y) = (tn zs n))) ∧ ((((Option.some (D.sl (0 : Nat) (0 : Nat) n (Cap.exact n (1 : Nat)))) = (Option.some (D.sl (0 : Nat) (0 : Nat) n (Cap.exact n (1 : Nat))))) ∧ (((Option.some (D.v (Value.int IntKind.i64 (IntKind.wrap IntKind.i64 (((x : Nat) : Int) - (1 : Int)))))) = (Option.some (D.v (Value.int IntKind.i64 ((y : Nat) : Int))))) ∧ True)) ∧ ([(Option.some (Blk.mk (48 : Nat) (u32s zs) full))] = [(Option.some (Blk.mk (48 : Nat) (u32s zs) full))])))))))) (∃ (r : Unit), (True ∧ (((Exit.exit (0 : Nat)) = (Exit.exit (0 : Nat))) ∧ ((((Option.some (D.sl (0 : Nat) (0 : Nat) n (Cap.exact n (1 : Nat)))) = (Option.some (D.sl (0 : Nat) (0 : Nat) n (Cap.exact n (1 : Nat))))) ∧ (((Option.some (D.v (Value.int IntKind.i64 ((x : Nat) : Int)))) = (Option.some (D.v (Value.int IntKind.i64 (((tn zs n) : Nat) : Int))))) ∧ True)) ∧ ([(Option.some (Blk.mk (48 : Nat) (u32s zs) full))] = [(Option.some (Blk.mk (48 : Nat) (u32s zs) full))]))))))))))))) (True ∧ (∃ (r : Unit), (True ∧ (((Exit.exit (0 : Nat)) = (Exit.exit (0 : Nat))) ∧ ((((Option.some (D.sl (0 : Nat) (0 : Nat) n (Cap.exact n (1 : Nat)))) = (Option.some (D.sl (0 : Nat) (0 : Nat) n (Cap.exact n (1 : Nat))))) ∧ (((Option.some (D.v (Value.int IntKind.i64 ((x : Nat) : Int)))) = (Option.some (D.v (Value.int IntKind.i64 (((tn zs n) : Nat) : Int))))) ∧ True)) ∧ ([(Option.some (Blk.mk (48 : Nat) (u32s zs) full))] = [(Option.some (Blk.mk (48 : Nat) (u32s zs) full))]))))))))))) (by kernel_rfl) ?_
  obtain ⟨hl, hb⟩ := hpre
  obtain ⟨hx, ht⟩ := hJ
  simp only [true_and, and_true, and_self, IsInt_lit, IsBool_lit, IsStr_lit, Bool.not_eq_true', Bool.not_eq_false', Bool.not_true, Bool.not_false, Int.reduceLE, Int.reduceLT, Int.reduceNeg, Nat.le_refl, Int.le_refl, Nat.reduceLT, Nat.reduceLeDiff, Nat.reduceEqDiff, D.v.injEq, D.tup.injEq, D.agg.injEq, D.ro.injEq, List.cons.injEq, Value.int.injEq, Value.bool.injEq, pcond_true, pcond_false, NamelessL, Nameless, Nat.reduceMul, Nat.reduceAdd, Nat.zero_add, Int.toNat_natCast]
  refine pcond_intro (fun h => ?_) (fun h => ?_)
  · simp only [decide_eq_true_eq] at h
    obtain ⟨j, rfl⟩ : ∃ j, x = j + 1 := ⟨x - 1, by omega⟩
    have e : IntKind.i64.wrap (((j + 1 : Nat) : Int) - 1) = (j : Int) := by rw [wrap_i64_of (by omega) (by omega)]; omega
    simp only [e, Int.toNat_natCast, Nat.mul_one, u32s_cell, u32s_length, u32s_isInt _ _ (show j < zs.length by omega)]
    refine ⟨⟨by omega, by omega⟩, ⟨by omega, trivial⟩, pcond_intro (fun h2 => ⟨j, by omega, ⟨by omega, ?_⟩, rfl⟩) (fun h2 => ⟨(), ?_⟩)⟩
    · rw [← ht]; simp at h2; simp [tn, h2]
    · have : tn zs n = j + 1 := by rw [← ht]; simp at h2; simp [tn, h2]
      simp [this]
  · have : tn zs n = x := by rw [← ht]; simp at h; subst h; rfl
    refine ⟨(), ?_⟩
    simp [this]
theorem cutX_nil (full : Bool) (zs : List Nat) (n : Nat) (hpre : n ≤ zs.length ∧ zs.length ≤ 1000000) (h0 : tn zs n = 0) : CallJ Try.prog 54 [d_sX n] (d_zb full zs) (.v (.slice none 0 0)) (d_zb full zs) := by
  refine callJ_same (call := noCalls) (lp := fun k' => bif Nat.beq k' 2 then some (lp_cutX full zs n) else none) (N := 10) T_ok mixed noCalls_ok Try.func54 rfl (by decide) (by kernel_rfl) (by kernel_rfl)
    (of_eq (B := LRule Try.prog Try.f54.ntmps (loopAt ((Try.f54.body).getD .skip) 2) (lp_cutX full zs n) ∧ True) (by kernel_rfl) ⟨cutX_rule full zs n hpre, trivial⟩) ?_
  refine of_eq (B := (True ∧ (True ∧ (True ∧ (True ∧ (((n ≤ n) ∧ ((tn zs n) = (tn zs n))) ∧ ((((Option.some (D.sl (0 : Nat) (0 : Nat) n (Cap.exact n (1 : Nat)))) = (Option.some (D.sl (0 : Nat) (0 : Nat) n (Cap.exact n (1 : Nat))))) ∧ (((Option.some (D.v (Value.int IntKind.i64 ((n : Nat) : Int)))) = (Option.some (D.v (Value.int IntKind.i64 ((n : Nat) : Int))))) ∧ True)) ∧ (([(Option.some (Blk.mk (48 : Nat) (u32s zs) full))] = [(Option.some (Blk.mk (48 : Nat) (u32s zs) full))]) ∧ (Unit → (True → (True ∧ (True ∧ (pcond ((((tn zs n) : Nat) : Int) == (0 : Int)) (True ∧ (True ∧ (((D.v (Value.slice (Option.none) (0 : Nat) (0 : Nat))) = (D.v (Value.slice (Option.none) (0 : Nat) (0 : Nat)))) ∧ ([(Option.some (Blk.mk (48 : Nat) (u32s zs) full))] = [(Option.some (Blk.mk (48 : Nat) (u32s zs) full))])))) (True ∧ (True ∧ (True ∧ (((True ∧ ((((0 : Int) ≤ (((tn zs n) : Nat) : Int)) ∧ ((((tn zs n) : Nat) : Int) ≤ (((Int.toNat (((tn zs n) : Nat) : Int)) : Nat) : Int))) ∧ (((0 : Int) ≤ (((tn zs n) : Nat) : Int)) ∧ (((((tn zs n) : Nat) : Int) ≤ ((n : Nat) : Int)) ∧ (Bool.true = Bool.true))))) ∧ ((1 : Nat) = (1 : Nat))) ∧ (True ∧ (True ∧ (((D.sl (0 : Nat) (0 : Nat) ((Int.toNat (((tn zs n) : Nat) : Int)) - (0 : Nat)) (Cap.exact ((Int.toNat (((tn zs n) : Nat) : Int)) - (0 : Nat)) (1 : Nat))) = (D.v (Value.slice (Option.none) (0 : Nat) (0 : Nat)))) ∧ ([(Option.some (Blk.mk (48 : Nat) (u32s zs) full))] = [(Option.some (Blk.mk (48 : Nat) (u32s zs) full))]))))))))))))))))))))) (by kernel_rfl) ?_
  simp only [true_and, and_true, and_self, IsInt_lit, IsBool_lit, IsStr_lit, Bool.not_eq_true', Bool.not_eq_false', Bool.not_true, Bool.not_false, Int.reduceLE, Int.reduceLT, Int.reduceNeg, Nat.le_refl, Int.le_refl, Nat.reduceLT, Nat.reduceLeDiff, Nat.reduceEqDiff, D.v.injEq, D.tup.injEq, D.agg.injEq, D.ro.injEq, List.cons.injEq, Value.int.injEq, Value.bool.injEq, pcond_true, pcond_false, NamelessL, Nameless, Nat.reduceMul, Nat.reduceAdd, Nat.zero_add, Int.toNat_natCast, h0]
  exact fun _ _ => pcond_intro (fun _ => trivial) (fun h => by simp at h)
theorem cutX_some (full : Bool) (zs : List Nat) (n : Nat) (hpre : n ≤ zs.length ∧ zs.length ≤ 1000000) (h0 : 0 < tn zs n) : CallJ Try.prog 54 [d_sX n] (d_zb full zs) (.sl 0 0 (tn zs n) (.exact (tn zs n) 1)) (d_zb full zs) := by
  refine callJ_same (call := noCalls) (lp := fun k' => bif Nat.beq k' 2 then some (lp_cutX full zs n) else none) (N := 10) T_ok mixed noCalls_ok Try.func54 rfl (by decide) (by kernel_rfl) (by kernel_rfl)
    (of_eq (B := LRule Try.prog Try.f54.ntmps (loopAt ((Try.f54.body).getD .skip) 2) (lp_cutX full zs n) ∧ True) (by kernel_rfl) ⟨cutX_rule full zs n hpre, trivial⟩) ?_
  refine of_eq (B := (True ∧ (True ∧ (True ∧ (True ∧ (((n ≤ n) ∧ ((tn zs n) = (tn zs n))) ∧ ((((Option.some (D.sl (0 : Nat) (0 : Nat) n (Cap.exact n (1 : Nat)))) = (Option.some (D.sl (0 : Nat) (0 : Nat) n (Cap.exact n (1 : Nat))))) ∧ (((Option.some (D.v (Value.int IntKind.i64 ((n : Nat) : Int)))) = (Option.some (D.v (Value.int IntKind.i64 ((n : Nat) : Int))))) ∧ True)) ∧ (([(Option.some (Blk.mk (48 : Nat) (u32s zs) full))] = [(Option.some (Blk.mk (48 : Nat) (u32s zs) full))]) ∧ (Unit → (True → (True ∧ (True ∧ (pcond ((((tn zs n) : Nat) : Int) == (0 : Int)) (True ∧ (True ∧ (((D.v (Value.slice (Option.none) (0 : Nat) (0 : Nat))) = (D.sl (0 : Nat) (0 : Nat) (tn zs n) (Cap.exact (tn zs n) (1 : Nat)))) ∧ ([(Option.some (Blk.mk (48 : Nat) (u32s zs) full))] = [(Option.some (Blk.mk (48 : Nat) (u32s zs) full))])))) (True ∧ (True ∧ (True ∧ (((True ∧ ((((0 : Int) ≤ (((tn zs n) : Nat) : Int)) ∧ ((((tn zs n) : Nat) : Int) ≤ (((Int.toNat (((tn zs n) : Nat) : Int)) : Nat) : Int))) ∧ (((0 : Int) ≤ (((tn zs n) : Nat) : Int)) ∧ (((((tn zs n) : Nat) : Int) ≤ ((n : Nat) : Int)) ∧ (Bool.true = Bool.true))))) ∧ ((1 : Nat) = (1 : Nat))) ∧ (True ∧ (True ∧ (((D.sl (0 : Nat) (0 : Nat) ((Int.toNat (((tn zs n) : Nat) : Int)) - (0 : Nat)) (Cap.exact ((Int.toNat (((tn zs n) : Nat) : Int)) - (0 : Nat)) (1 : Nat))) = (D.sl (0 : Nat) (0 : Nat) (tn zs n) (Cap.exact (tn zs n) (1 : Nat)))) ∧ ([(Option.some (Blk.mk (48 : Nat) (u32s zs) full))] = [(Option.some (Blk.mk (48 : Nat) (u32s zs) full))]))))))))))))))))))))) (by kernel_rfl) ?_
  have ht := tn_le zs n
  simp only [true_and, and_true, and_self, IsInt_lit, IsBool_lit, IsStr_lit, Bool.not_eq_true', Bool.not_eq_false', Bool.not_true, Bool.not_false, Int.reduceLE, Int.reduceLT, Int.reduceNeg, Nat.le_refl, Int.le_refl, Nat.reduceLT, Nat.reduceLeDiff, Nat.reduceEqDiff, D.v.injEq, D.tup.injEq, D.agg.injEq, D.ro.injEq, List.cons.injEq, Value.int.injEq, Value.bool.injEq, pcond_true, pcond_false, NamelessL, Nameless, Nat.reduceMul, Nat.reduceAdd, Nat.zero_add, Int.toNat_natCast]
  intro _ _
  refine pcond_intro (fun h => ?_) (fun h => ⟨⟨by omega, by omega, by omega⟩, rfl⟩)
  simp at h; omega
def ents_cut : EntS := fun off n c plain blk => match c, plain, blk with
  | .toEnd 1, [], ⟨ty, cs, full⟩ => some (tn (unu cs) n, ((ty = 48 ∧ off = 0) ∧ cs = u32s (unu cs)) ∧ n ≤ (unu cs).length ∧ (unu cs).length ≤ 1000000)
  | .exact cap 1, [], ⟨ty, cs, full⟩ => some (tn (unu cs) n, ((ty = 48 ∧ off = 0) ∧ cs = u32s (unu cs) ∧ cap = n) ∧ n ≤ (unu cs).length ∧ (unu cs).length ≤ 1000000)
  | _, _, _ => none
theorem ents_cut_ok : EntSOk Try.prog 54 ents_cut := by
  intro off n c plain blk m p h hp
  unfold ents_cut at h
  split at h
  · rename_i ty cs full
    simp only [Option.some.injEq, Prod.mk.injEq] at h
    obtain ⟨rfl, rfl⟩ := h
    obtain ⟨⟨⟨rfl, rfl⟩, hcs⟩, hl⟩ := hp
    generalize unu cs = zs at *
    subst hcs
    exact ⟨by simp [NamelessL], u32s_nameless _, fun h => cutE_nil full zs n hl h, fun h => cutE_some full zs n hl h⟩
  · rename_i cap ty cs full
    simp only [Option.some.injEq, Prod.mk.injEq] at h
    obtain ⟨rfl, rfl⟩ := h
    obtain ⟨⟨⟨rfl, rfl⟩, hcs, rfl⟩, hl⟩ := hp
    generalize unu cs = zs at *
    subst hcs
    exact ⟨by simp [NamelessL], u32s_nameless _, fun h => cutX_nil full zs _ hl h, fun h => cutX_some full zs _ hl h⟩
  · cases h

theorem kclone (xs : List Nat) (hpre : 0 < xs.length ∧ xs.length ≤ 1000000) : CallJ Try.prog 52 [.ro xs.length (u32s xs)] [] (.sl 0 0 xs.length (.toEnd 1)) [some ⟨48, u32s xs, false⟩] := by
  refine callJ_second (call := noCalls) (lp := fun _ => none) (N := 10) T_ok mixed noCalls_ok Try.func52 rfl (by decide) (by kernel_rfl) (by kernel_rfl) (LpAll.none _) (u32s_nameless _) ?_
  refine of_eq (B := (True ∧ (True ∧ (((0 : Nat) < (List.length xs)) ∧ ((((0 : Nat) ≤ (16777216 : Nat)) ∧ ((0 : Nat) ≤ (9223372036854775807 : Nat))) ∧ (True ∧ (((((List.length xs) * (1 : Nat)) ≤ (List.length (u32s xs))) ∧ (((22 : Nat) = (22 : Nat)) ∧ (((1 : Nat) = (1 : Nat)) ∧ (((48 : Nat) = (48 : Nat)) ∧ (((0 : Nat) ≤ (0 : Nat)) ∧ (((0 : Nat) < (1 : Nat)) ∧ ((((0 : Nat) + (List.length xs)) ≤ (9223372036854775807 : Nat)) ∧ ((((0 : Nat) + (List.length xs)) * (4 : Nat)) ≤ (140737488355328 : Nat))))))))) ∧ (True ∧ (True ∧ (((D.sl (1 : Nat) (0 : Nat) ((0 : Nat) + (List.length xs)) (Cap.toEnd (1 : Nat))) = (D.sl (1 : Nat) (0 : Nat) (List.length xs) (Cap.toEnd (1 : Nat)))) ∧ ([(Option.none), (Option.some (Blk.mk (48 : Nat) (([] : List D) ++ (List.take ((List.length xs) * (1 : Nat)) (u32s xs))) Bool.false))] = [(Option.none), (Option.some (Blk.mk (48 : Nat) (u32s xs) Bool.false))]))))))))))) (by kernel_rfl) ?_
  simp only [true_and, and_true, and_self, IsInt_lit, IsBool_lit, IsStr_lit, Bool.not_eq_true', Bool.not_eq_false', Bool.not_true, Bool.not_false, Int.reduceLE, Int.reduceLT, Int.reduceNeg, Nat.le_refl, Int.le_refl, Nat.reduceLT, Nat.reduceLeDiff, Nat.reduceEqDiff, D.v.injEq, D.tup.injEq, D.agg.injEq, D.ro.injEq, List.cons.injEq, Value.int.injEq, Value.bool.injEq, pcond_true, pcond_false, NamelessL, Nameless, Nat.reduceMul, Nat.reduceAdd, Nat.zero_add, Int.toNat_natCast, Nat.mul_one, u32s_take, u32s_length, List.take_length, List.nil_append]
  exact ⟨hpre.1, by omega, by omega⟩
def entk_clone : EntK := fun ds => match ds with
  | [.ro n cs] => some (n, .toEnd 1, ⟨48, cs, false⟩, (cs = u32s (unu cs) ∧ n = (unu cs).length) ∧ 0 < (unu cs).length ∧ (unu cs).length ≤ 1000000)
  | _ => none
theorem entk_clone_ok : EntKOk Try.prog 52 entk_clone := by
  intro ds n c blk p h hp
  unfold entk_clone at h
  split at h
  · rename_i n cs
    simp only [Option.some.injEq, Prod.mk.injEq] at h
    obtain ⟨rfl, rfl, rfl, rfl⟩ := h
    obtain ⟨⟨hcs, hn⟩, hl⟩ := hp
    generalize unu cs = xs at *
    subst hcs; subst hn
    exact ⟨kclone xs hl, by simp [NamelessL, Nameless, u32s_nameless], u32s_nameless _⟩
  · cases h

def d_bb (full : Bool) (o : List Nat) : Heap := [some ⟨5, u8s o, full⟩]
def lp_rev (full : Bool) (xs ys : List Nat) : LoopO := loopRuleD (α := Nat) (β := Unit) (fun i => i ≤ xs.length)
  (fun i => [(0, d_sE xs.length), (2, .v (.int .i64 (i : Int))), (3, .v (.int .i64 ((xs.length : Int) - 1 - i)))])
  (fun i => d_bb full (revT xs i ++ ys)) 0 (fun _ => True) (fun _ => (.exit 0, [], d_bb full (xs.reverse ++ ys)))
theorem rev_rule (full : Bool) (xs ys : List Nat) (hpre : xs.length ≤ 1000000) : LRule Try.prog Try.f55.ntmps (loopAt ((Try.f55.body).getD .skip) 1) (lp_rev full xs ys) := by
  refine lruleD_of (α := Nat) (β := Unit) (call := noCalls) (lp := fun _ => none) (N := 10) T_ok mixed noCalls_ok (fun i => xs.length - i) (by kernel_rfl) (LpAll.none _) ?_
  intro i hJ
  refine of_eq (B := (True ∧ (True ∧ (True ∧ (pcond (Decidable.decide (((i : Nat) : Int) < (((((List.length xs) : Nat) : Int) - (1 : Int)) - ((i : Nat) : Int)))) (True ∧ (True ∧ (True ∧ (True ∧ (True ∧ (True ∧ ((((0 : Int) ≤ (((((List.length xs) : Nat) : Int) - (1 : Int)) - ((i : Nat) : Int))) ∧ ((((((List.length xs) : Nat) : Int) - (1 : Int)) - ((i : Nat) : Int)) < (((List.length xs) : Nat) : Int))) ∧ (((((0 : Nat) + ((Int.toNat (((((List.length xs) : Nat) : Int) - (1 : Int)) - ((i : Nat) : Int))) * (1 : Nat))) < (List.length (u8s ((revT xs i) ++ ys)))) ∧ (IsInt IntKind.u8 (List.getD (u8s ((revT xs i) ++ ys)) ((0 : Nat) + ((Int.toNat (((((List.length xs) : Nat) : Int) - (1 : Int)) - ((i : Nat) : Int))) * (1 : Nat))) (Inhabited.default)))) ∧ (True ∧ (True ∧ ((((0 : Int) ≤ ((i : Nat) : Int)) ∧ (((i : Nat) : Int) < (((List.length xs) : Nat) : Int))) ∧ (((((0 : Nat) + ((Int.toNat ((i : Nat) : Int)) * (1 : Nat))) < (List.length (u8s ((revT xs i) ++ ys)))) ∧ (IsInt IntKind.u8 (List.getD (u8s ((revT xs i) ++ ys)) ((0 : Nat) + ((Int.toNat ((i : Nat) : Int)) * (1 : Nat))) (Inhabited.default)))) ∧ ((((0 : Int) ≤ ((i : Nat) : Int)) ∧ (((i : Nat) : Int) < (((List.length xs) : Nat) : Int))) ∧ ((((1 : Nat) = (1 : Nat)) ∧ ((((0 : Nat) + ((Int.toNat ((i : Nat) : Int)) * (1 : Nat))) + (1 : Nat)) ≤ (List.length (u8s ((revT xs i) ++ ys))))) ∧ ((((0 : Int) ≤ (((((List.length xs) : Nat) : Int) - (1 : Int)) - ((i : Nat) : Int))) ∧ ((((((List.length xs) : Nat) : Int) - (1 : Int)) - ((i : Nat) : Int)) < (((List.length xs) : Nat) : Int))) ∧ ((((1 : Nat) = (1 : Nat)) ∧ ((((0 : Nat) + ((Int.toNat (((((List.length xs) : Nat) : Int) - (1 : Int)) - ((i : Nat) : Int))) * (1 : Nat))) + (1 : Nat)) ≤ (List.length (List.set (u8s ((revT xs i) ++ ys)) ((0 : Nat) + ((Int.toNat ((i : Nat) : Int)) * (1 : Nat))) (D.v (Value.int IntKind.u8 (cellInt (List.getD (u8s ((revT xs i) ++ ys)) ((0 : Nat) + ((Int.toNat (((((List.length xs) : Nat) : Int) - (1 : Int)) - ((i : Nat) : Int))) * (1 : Nat))) (Inhabited.default))))))))) ∧ ((Bool.true = Bool.true) ∧ (True ∧ (True ∧ (True ∧ (True ∧ (True ∧ (True ∧ (∃ (y : Nat), ((((List.length xs) - y) < ((List.length xs) - i)) ∧ ((y ≤ (List.length xs)) ∧ ((((Option.some (D.sl (0 : Nat) (0 : Nat) (List.length xs) (Cap.toEnd (1 : Nat)))) = (Option.some (D.sl (0 : Nat) (0 : Nat) (List.length xs) (Cap.toEnd (1 : Nat))))) ∧ (((Option.some (D.v (Value.int IntKind.i64 (IntKind.wrap IntKind.i64 (((i : Nat) : Int) + (1 : Int)))))) = (Option.some (D.v (Value.int IntKind.i64 ((y : Nat) : Int))))) ∧ (((Option.some (D.v (Value.int IntKind.i64 (IntKind.wrap IntKind.i64 ((((((List.length xs) : Nat) : Int) - (1 : Int)) - ((i : Nat) : Int)) - (1 : Int)))))) = (Option.some (D.v (Value.int IntKind.i64 (((((List.length xs) : Nat) : Int) - (1 : Int)) - ((y : Nat) : Int)))))) ∧ True))) ∧ ([(Option.some (Blk.mk (5 : Nat) (List.set (List.set (u8s ((revT xs i) ++ ys)) ((0 : Nat) + ((Int.toNat ((i : Nat) : Int)) * (1 : Nat))) (D.v (Value.int IntKind.u8 (cellInt (List.getD (u8s ((revT xs i) ++ ys)) ((0 : Nat) + ((Int.toNat (((((List.length xs) : Nat) : Int) - (1 : Int)) - ((i : Nat) : Int))) * (1 : Nat))) (Inhabited.default)))))) ((0 : Nat) + ((Int.toNat (((((List.length xs) : Nat) : Int) - (1 : Int)) - ((i : Nat) : Int))) * (1 : Nat))) (D.v (Value.int IntKind.u8 (cellInt (List.getD (u8s ((revT xs i) ++ ys)) ((0 : Nat) + ((Int.toNat ((i : Nat) : Int)) * (1 : Nat))) (Inhabited.default)))))) full))] = [(Option.some (Blk.mk (5 : Nat) (u8s ((revT xs y) ++ ys)) full))])))))))))))))))))))))))))))) (∃ (r : Unit), (True ∧ (((Exit.exit (0 : Nat)) = (Exit.exit (0 : Nat))) ∧ (True ∧ ([(Option.some (Blk.mk (5 : Nat) (u8s ((revT xs i) ++ ys)) full))] = [(Option.some (Blk.mk (5 : Nat) (u8s ((List.reverse xs) ++ ys)) full))])))))))))) (by kernel_rfl) ?_
  simp only [true_and, and_true, and_self, IsInt_lit, IsBool_lit, IsStr_lit, Bool.not_eq_true', Bool.not_eq_false', Bool.not_true, Bool.not_false, Int.reduceLE, Int.reduceLT, Int.reduceNeg, Nat.le_refl, Int.le_refl, Nat.reduceLT, Nat.reduceLeDiff, Nat.reduceEqDiff, D.v.injEq, D.tup.injEq, D.agg.injEq, D.ro.injEq, List.cons.injEq, Value.int.injEq, Value.bool.injEq, pcond_true, pcond_false, NamelessL, Nameless, Nat.reduceMul, Nat.reduceAdd, Nat.zero_add, Int.toNat_natCast]
  refine pcond_intro (fun h => ?_) (fun h => ?_)
  · simp only [decide_eq_true_eq] at h
    have hs := revT_step (xs := xs) (i := i) (by omega)
    have e0 : ((xs.length : Int) - 1 - (i : Int)).toNat = xs.length - 1 - i := by omega
    have hl := revT_length xs i
    have g1 : ∀ k, k < xs.length → (revT xs i ++ ys).getD k 0 = (revT xs i).getD k 0 := fun k hk => by
      rw [List.getD_eq_getElem?_getD, List.getElem?_append_left (by omega), ← List.getD_eq_getElem?_getD]
    have s1 : ∀ (zs : List Nat) k x, zs.length = xs.length → k < xs.length → (zs ++ ys).set k x = zs.set k x ++ ys := fun zs k x hz hk => List.set_append_left _ _ (by omega)
    have hla : (revT xs i ++ ys).length = xs.length + ys.length := by simp [hl]
    simp only [e0, Nat.mul_one, u8s_length, u8s_cell, u8s_isInt (revT xs i ++ ys) i (by omega), u8s_isInt (revT xs i ++ ys) (xs.length - 1 - i) (by omega), g1 i (by omega), g1 (xs.length - 1 - i) (by omega), u8s_put, s1 _ i _ hl (by omega), s1 ((revT xs i).set i ((revT xs i).getD (xs.length - 1 - i) 0)) (xs.length - 1 - i) _ (by rw [List.length_set]; exact hl) (by omega), hs, and_true]
    refine ⟨by omega, by omega, by omega, by omega, by omega, by omega, by omega, by simp [hl]; omega, i + 1, by omega, by omega, ⟨?_, ?_⟩, rfl⟩
    · rw [wrap_i64_of (by omega) (by omega)]; rfl
    · rw [wrap_i64_of (by omega) (by omega)]; congr 3; omega
  · simp only [decide_eq_false_iff_not] at h
    refine ⟨(), ?_⟩
    rw [revT_end (by omega)]
theorem rev_mut (full : Bool) (xs ys : List Nat) (hpre : xs.length ≤ 1000000) : MutJ Try.prog 55 0 xs.length (.toEnd 1) [] ⟨5, u8s (xs ++ ys), full⟩ (.tup []) ⟨5, u8s (xs.reverse ++ ys), full⟩ := by
  refine mutJ_of_vcx (call := noCalls) (lp := fun k' => bif Nat.beq k' 1 then some (lp_rev full xs ys) else none) (N := 10) T_ok mixed noCalls_ok Try.func55 rfl (by decide) (by kernel_rfl) (by kernel_rfl)
    (of_eq (B := LRule Try.prog Try.f55.ntmps (loopAt ((Try.f55.body).getD .skip) 1) (lp_rev full xs ys) ∧ True) (by kernel_rfl) ⟨rev_rule full xs ys hpre, trivial⟩) (by simp [NamelessL]) (by simp [Nameless, NamelessL]) (u8s_nameless _) (u8s_nameless _) ?_
  refine of_eq (B := (True ∧ (True ∧ (True ∧ (True ∧ (True ∧ (((0 : Nat) ≤ (List.length xs)) ∧ ((((Option.some (D.sl (0 : Nat) (0 : Nat) (List.length xs) (Cap.toEnd (1 : Nat)))) = (Option.some (D.sl (0 : Nat) (0 : Nat) (List.length xs) (Cap.toEnd (1 : Nat))))) ∧ (((Option.some (D.v (Value.int IntKind.i64 (0 : Int)))) = (Option.some (D.v (Value.int IntKind.i64 (0 : Int))))) ∧ (((Option.some (D.v (Value.int IntKind.i64 (IntKind.wrap IntKind.i64 ((((List.length xs) : Nat) : Int) - (1 : Int)))))) = (Option.some (D.v (Value.int IntKind.i64 (((((List.length xs) : Nat) : Int) - (1 : Int)) - (0 : Int)))))) ∧ True))) ∧ (([(Option.some (Blk.mk (5 : Nat) (u8s (xs ++ ys)) full))] = [(Option.some (Blk.mk (5 : Nat) (u8s ((revT xs (0 : Nat)) ++ ys)) full))]) ∧ (Unit → (True → (True ∧ (((D.tup ([] : List D)) = (D.tup ([] : List D))) ∧ ([(Option.some (Blk.mk (5 : Nat) (u8s ((List.reverse xs) ++ ys)) full))] = [(Option.some (Blk.mk (5 : Nat) (u8s ((List.reverse xs) ++ ys)) full))])))))))))))))) (by kernel_rfl) ?_
  have hw : IntKind.i64.wrap ((xs.length : Int) - 1) = (xs.length : Int) - 1 - 0 := by rw [wrap_i64_of (by omega) (by omega)]; omega
  simp only [true_and, and_true, and_self, IsInt_lit, IsBool_lit, IsStr_lit, Bool.not_eq_true', Bool.not_eq_false', Bool.not_true, Bool.not_false, Int.reduceLE, Int.reduceLT, Int.reduceNeg, Nat.le_refl, Int.le_refl, Nat.reduceLT, Nat.reduceLeDiff, Nat.reduceEqDiff, D.v.injEq, D.tup.injEq, D.agg.injEq, D.ro.injEq, List.cons.injEq, Value.int.injEq, Value.bool.injEq, pcond_true, pcond_false, NamelessL, Nameless, Nat.reduceMul, Nat.reduceAdd, Nat.zero_add, Int.toNat_natCast, hw, revT_start]
  exact ⟨Nat.zero_le _, fun _ _ => trivial⟩
def entm_rev : EntM := fun off n c plain blk => match c, plain, blk with
  | .toEnd 1, [], ⟨ty, cs, full⟩ => some (.tup [], ⟨ty, u8s (((unb cs).take n).reverse ++ (unb cs).drop n), full⟩, ((ty = 5 ∧ off = 0) ∧ cs = u8s (unb cs)) ∧ n ≤ (unb cs).length ∧ n ≤ 1000000)
  | _, _, _ => none
theorem entm_rev_ok : EntMOk Try.prog 55 entm_rev := by
  intro off n c plain blk d blk' p h hp
  unfold entm_rev at h
  split at h
  · rename_i ty cs full
    simp only [Option.some.injEq, Prod.mk.injEq] at h
    obtain ⟨rfl, rfl, rfl⟩ := h
    obtain ⟨⟨⟨rfl, rfl⟩, hcs⟩, hl, hm⟩ := hp
    generalize unb cs = zs at *
    subst hcs
    have hlt : (zs.take n).length = n := by simp; omega
    have := rev_mut full (zs.take n) (zs.drop n) (by omega)
    rw [hlt, List.take_append_drop] at this
    exact this
  · cases h
end Go.Proofs.Ytgilijgbljgekaa
