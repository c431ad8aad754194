/- Layer 4: the law of words. -/
import Derived.Test.YthnhfkpihbjddaaYh
namespace Go.Proofs.Ythnhfkpihbjddaa
open Go.VD
set_option linter.unusedVariables false
set_option linter.unusedSimpArgs false
set_option maxRecDepth 100000

theorem dash_dec (s : ByteArray) : numG s = (decide (0 < s.size) && decide (bt s 0 = 45)) := by
  unfold numG hasQ
  rw [ByteArray.toList_eq, ByteArray.toList_eq]
  have e : (s.extract 0 dash.size).data.toList = s.data.toList.take 1 := by simp [ByteArray.data_extract, dash]; rfl
  rw [e]
  have e2 : dash.data.toList = [45] := rfl
  have e3 : dash.size = 1 := rfl
  rw [e2, e3, size_list s]
  unfold bt
  generalize s.data.toList = l
  cases l with
  | nil => rfl
  | cons b r =>
    simp only [List.length_cons, List.take_succ_cons, List.take_zero, List.getD_cons_zero]
    rw [Bool.eq_iff_iff]
    simp only [Bool.and_eq_true, decide_eq_true_eq, beq_iff_eq, List.cons.injEq, and_true]
    constructor
    · rintro ⟨h1, rfl⟩; exact ⟨by omega, rfl⟩
    · rintro ⟨h1, h2⟩; exact ⟨by omega, UInt8.toNat_inj.1 h2⟩
theorem one_dec (s : ByteArray) : (s.toList == [48]) = (decide (s.size = 1) && decide (bt s 0 = 48)) := by
  rw [ByteArray.toList_eq, size_list]
  unfold bt
  generalize s.data.toList = l
  match l with
  | [] => rfl
  | [b] =>
    simp only [List.length_cons, List.length_nil, List.getD_cons_zero]
    rw [Bool.eq_iff_iff]
    simp only [Bool.and_eq_true, decide_eq_true_eq, beq_iff_eq, List.cons.injEq, and_true]
    constructor
    · rintro rfl; exact ⟨trivial, rfl⟩
    · rintro ⟨_, h2⟩; exact UInt8.toNat_inj.1 h2
  | b :: c :: r =>
    rw [Bool.eq_iff_iff]
    simp
theorem words_eq (s : ByteArray) : rOk s = numOk s ∧ (numOk s = true → rV s = numV s) := by
  have hd := dash_dec s
  have h1 := one_dec s
  by_cases h2 : 1 < s.size
  · have hG : rG s = numG s := by unfold rG; rw [hd, decide_eq_true h2, decide_eq_true (show 0 < s.size by omega)]
    have hT : rT s = numT s := by unfold rT; rw [hG]; rfl
    have hz : (s.toList == [48]) = false := by rw [h1, decide_eq_false (show ¬ s.size = 1 by omega), Bool.false_and]
    have lead : (decide (1 < (numT s).size) || rG s) = true := by
      rw [hG]
      cases hg : numG s with
      | true => rw [Bool.or_true]
      | false =>
        have : numT s = s := by
          have : numT s = bif numG s then s.extract 1 s.size else s := rfl
          rw [this, hg]; rfl
        rw [this, decide_eq_true h2]; rfl
    refine ⟨?_, fun _ => by unfold rV numV; rw [hG, hT]⟩
    unfold rOk numOk
    rw [hT, lead, hz, Bool.not_false, Bool.and_true, Bool.and_comm (!_)]
  · have hg : rG s = false := by unfold rG; rw [decide_eq_false h2, Bool.false_and]
    have hT : rT s = s := by unfold rT; rw [hg]; rfl
    by_cases h0 : s.size = 0
    · have hg2 : numG s = false := by rw [hd, decide_eq_false (show ¬ 0 < s.size by omega), Bool.false_and]
      have hT2 : numT s = s := by
        have : numT s = bif numG s then s.extract 1 s.size else s := rfl
        rw [this, hg2]; rfl
      have e1 : rOk s = false := by unfold rOk; rw [hT, decide_eq_false (show ¬ 0 < s.size by omega), Bool.false_and]
      have e2 : numOk s = false := by unfold numOk; rw [hT2, decide_eq_false (show ¬ 0 < s.size by omega), Bool.false_and]
      rw [e1, e2]; exact ⟨rfl, fun h => by cases h⟩
    · have hs : s.size = 1 := by omega
      by_cases h45 : bt s 0 = 45
      · have hg2 : numG s = true := by rw [hd, decide_eq_true (show 0 < s.size by omega), decide_eq_true h45]; rfl
        have hT2 : numT s = s.extract 1 s.size := by
          have : numT s = bif numG s then s.extract 1 s.size else s := rfl
          rw [this, hg2]; rfl
        have e2 : numOk s = false := by
          unfold numOk; rw [hT2, decide_eq_false (show ¬ 0 < (s.extract 1 s.size).size by rw [ByteArray.size_extract]; omega), Bool.false_and]
        have e1 : rOk s = false := by
          have : spN digB s = 0 := spN_at (by omega) (by rw [h45]; rfl) fun i h => absurd h (Nat.not_lt_zero _)
          unfold rOk; rw [hT, this, decide_eq_false (show ¬ 0 = s.size by omega), Bool.and_false, Bool.and_false, Bool.and_false]
        rw [e1, e2]; exact ⟨rfl, fun h => by cases h⟩
      · have hg2 : numG s = false := by rw [hd, decide_eq_false h45, Bool.and_false]
        have hT2 : numT s = s := by
          have : numT s = bif numG s then s.extract 1 s.size else s := rfl
          rw [this, hg2]; rfl
        refine ⟨?_, fun _ => by unfold rV numV; rw [hg, hg2, hT, hT2]⟩
        unfold rOk numOk
        rw [hT, hT2, hg, h1, decide_eq_true hs, Bool.true_and, decide_eq_false h2, Bool.or_false, Bool.and_false, Bool.not_false, Bool.true_and]
        cases decide (bt s 0 = 48) <;> simp
theorem lawWords_pure (s : ByteArray) (hpre : s.size ≤ 9223372036854775807) : PureJ Try.prog 8 [.v (.string s)] (.v (.bool true)) := by
  refine pureJ_of_vcx (call := (addPure 34 ent_synKnown (addPure 44 ent_hNumber (addPure 45 ent_rNumber (addPure 46 ent_hPlain (addPure 47 ent_rPlain noCalls)))))) (lp := fun _ => none) (N := 10) T_ok mixed (addPure_ok ent_synKnown_ok (addPure_ok ent_hNumber_ok (addPure_ok ent_rNumber_ok (addPure_ok ent_hPlain_ok (addPure_ok ent_rPlain_ok noCalls_ok))))) Try.func8 rfl (by decide) (by kernel_rfl) (by kernel_rfl) (LpAll.none _) (by first | trivial | (simp only [NamelessL, Nameless, and_self, and_true, true_and]; done) | (simp [NamelessL, Nameless, u32s_nameless, namelessL_ints]; done)) (by first | trivial | (simp only [NamelessL, Nameless, and_self, and_true, true_and]; done) | (simp [NamelessL, Nameless, u32s_nameless, namelessL_ints]; done)) ?_
  refine of_eq (B := (True ∧ (True ∧ (True ∧ (True ∧ (((ByteArray.size s) ≤ (9223372036854775807 : Nat)) ∧ (True ∧ (True ∧ (True ∧ (True ∧ (True ∧ (True ∧ (((ByteArray.size s) ≤ (9223372036854775807 : Nat)) ∧ (True ∧ (True ∧ (True ∧ (True ∧ (True ∧ (True ∧ (True ∧ (True ∧ (True ∧ (pcond ((cond (numOk s) (numV s) (0 : Int)) == (cond (rOk s) (rV s) (0 : Int))) (True ∧ (True ∧ (True ∧ (True ∧ (True ∧ (pcond ((numOk s) == (rOk s)) (True ∧ (((ByteArray.size s) ≤ (9223372036854775807 : Nat)) ∧ (True ∧ (((ByteArray.size s) ≤ (9223372036854775807 : Nat)) ∧ (True ∧ (True ∧ (True ∧ (True ∧ (True ∧ ((D.v (Value.bool (((Decidable.decide ((ByteArray.size s) ≠ (0 : Nat))) && (Decidable.decide ((spN plB s) = (ByteArray.size s)))) == ((Decidable.decide ((ByteArray.size s) ≠ (0 : Nat))) && (Decidable.decide ((spN plB s) = (ByteArray.size s))))))) = (D.v (Value.bool Bool.true)))))))))))) (True ∧ (True ∧ (True ∧ (True ∧ ((D.v (Value.bool Bool.false)) = (D.v (Value.bool Bool.true))))))))))))) (True ∧ (True ∧ (True ∧ (True ∧ (True ∧ (True ∧ ((D.v (Value.bool Bool.false)) = (D.v (Value.bool Bool.true)))))))))))))))))))))))))))))))) (by kernel_rfl) ?_
  simp only [true_and, and_true, and_self, IsInt_lit, IsBool_lit, IsStr_lit, Bool.not_eq_true', Bool.not_eq_false', Bool.not_true, Bool.not_false, Int.reduceLE, Int.reduceLT, Int.reduceNeg, Nat.le_refl, Int.le_refl, Nat.reduceLT, Nat.reduceLeDiff, Nat.reduceEqDiff, D.v.injEq, D.tup.injEq, D.agg.injEq, D.ro.injEq, List.cons.injEq, Value.int.injEq, Value.bool.injEq, pcond_true, pcond_false, NamelessL, Nameless, Nat.reduceMul, Nat.reduceAdd, Nat.zero_add, Int.toNat_natCast]
  obtain ⟨e1, e2⟩ := words_eq s
  have ev : (bif numOk s then numV s else 0) = (bif rOk s then rV s else 0) := by
    rw [e1]
    cases h : numOk s with
    | false => rfl
    | true => rw [e2 h]
  refine ⟨hpre, hpre, ?_⟩
  rw [ev, beq_self_eq_true, pcond_true, e1, beq_self_eq_true, pcond_true, beq_self_eq_true]
  exact ⟨hpre, hpre, rfl⟩
def ent_lawWords : Ent := fun ds => match ds with
  | [.v (.string s)] => some (.v (.bool true), s.size ≤ 9223372036854775807)
  | _ => none
theorem ent_lawWords_ok : EntOk Try.prog 8 ent_lawWords := by
  intro ds d c h hc; unfold ent_lawWords at h; split at h
  · obtain ⟨rfl, rfl⟩ := pair_inj h; exact lawWords_pure _ hc
  · cases h
end Go.Proofs.Ythnhfkpihbjddaa
