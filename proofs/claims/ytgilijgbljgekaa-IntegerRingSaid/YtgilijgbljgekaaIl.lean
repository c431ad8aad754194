/- Integers by their values: contracts whose answers are named by values. -/
import Derived.Test.YtgilijgbljgekaaIi
import Derived.Test.YtgilijgbljgekaaIj
namespace Go.Proofs.Ytgilijgbljgekaa
open Go.VD
set_option linter.unusedVariables false
set_option linter.unusedSimpArgs false
set_option maxRecDepth 100000

def d_val (a : Int) : D := .agg [.v (.bool (decide (a < 0))), .ro (ofL a).length (u32s (ofL a))]
def Cn (xn : Bool) (n : Nat) (ys : List D) (a : Int) : Prop := (xn = decide (a < 0) ∧ n = (ofL a).length) ∧ ys = u32s (ofL a)
theorem Cn.self (a : Int) : Cn (decide (a < 0)) (ofL a).length (u32s (ofL a)) a := ⟨⟨rfl, rfl⟩, rfl⟩
def ln (a : Int) : Nat := (ofL a).length
theorem lenOk_val {a : Int} (h : ln a ≤ 400) : LenOk (ofL a) := ⟨by unfold ln at h; omega, dg_dig _⟩
theorem valid_val {a : Int} (h : ln a ≤ 400) : validL (decide (a < 0)) (ofL a) = true := good_valid (good_of a) h
theorem okS_val {v : Int} (h : ln v ≤ 400) : okS v = (decide (v < 0), ofL v, 0) := by unfold ln at h; simp [okS, h]
theorem ln_add {a b : Int} {m : Nat} (ha : ln a ≤ m) (hb : ln b ≤ m) : ln (a + b) ≤ m + 1 := by
  have h1 := lt_of_dg_length (v := a.natAbs) (k := m) ha
  have h2 := lt_of_dg_length (v := b.natAbs) (k := m) hb
  refine ofL_len ?_
  rw [Nat.pow_succ]
  have := Int.natAbs_add_le a b
  omega
theorem ln_neg (a : Int) : ln (-a) = ln a := by unfold ln ofL; rw [Int.natAbs_neg]
theorem ln_sub {a b : Int} {m : Nat} (ha : ln a ≤ m) (hb : ln b ≤ m) : ln (a - b) ≤ m + 1 := by
  rw [Int.sub_eq_add_neg]; exact ln_add ha (by rw [ln_neg]; exact hb)
theorem ln_mul {a b : Int} {m n : Nat} (ha : ln a ≤ m) (hb : ln b ≤ n) : ln (a * b) ≤ m + n := by
  have := ofL_mul_len a b
  unfold ln at *; omega
theorem nl_val (a : Int) : Nameless (d_val a) := by simp [d_val, Nameless, NamelessL, u32s_nameless]
theorem vAdd_pure (a b : Int) (hpre : (ln a ≤ 400 ∧ ln b ≤ 400) ∧ ln (a + b) ≤ 400) : PureJ Try.prog 28 [d_val a, d_val b] (.tup [d_val (a + b), .v (.int .i64 0)]) := by
  have h := hAdd_pure (decide (a < 0)) (ofL a) (decide (b < 0)) (ofL b) ⟨lenOk_val hpre.1.1, lenOk_val hpre.1.2⟩
  rw [valid_val hpre.1.1, valid_val hpre.1.2, iv_of, iv_of] at h
  simp only [arS, Bool.and_self, cond_true, okS_val hpre.2] at h
  exact h
def entq_vAdd : EntQ := fun ds K => match ds with
  | [.agg [.v (.bool xn), .ro n1 y1], .agg [.v (.bool yn), .ro n2 y2]] => some (∃ a b : Int, (Cn xn n1 y1 a ∧ Cn yn n2 y2 b) ∧ ((ln a ≤ 400 ∧ ln b ≤ 400) ∧ ln (a + b) ≤ 400) ∧ K (.tup [d_val (a + b), .v (.int .i64 0)]))
  | _ => none
theorem entq_vAdd_ok : EntQOk Try.prog 28 entq_vAdd := by
  intro ds K p h hp; unfold entq_vAdd at h; split at h
  · injection h with h; subst h
    obtain ⟨a, b, ⟨⟨⟨rfl, rfl⟩, rfl⟩, ⟨⟨rfl, rfl⟩, rfl⟩⟩, hc, hk⟩ := hp
    exact ⟨_, vAdd_pure a b hc, hk⟩
  · cases h
theorem vSub_pure (a b : Int) (hpre : (ln a ≤ 400 ∧ ln b ≤ 400) ∧ ln (a - b) ≤ 400) : PureJ Try.prog 30 [d_val a, d_val b] (.tup [d_val (a - b), .v (.int .i64 0)]) := by
  have h := hSub_pure (decide (a < 0)) (ofL a) (decide (b < 0)) (ofL b) ⟨lenOk_val hpre.1.1, lenOk_val hpre.1.2⟩
  rw [valid_val hpre.1.1, valid_val hpre.1.2, iv_of, iv_of] at h
  simp only [arS, Bool.and_self, cond_true, okS_val hpre.2] at h
  exact h
def entq_vSub : EntQ := fun ds K => match ds with
  | [.agg [.v (.bool xn), .ro n1 y1], .agg [.v (.bool yn), .ro n2 y2]] => some (∃ a b : Int, (Cn xn n1 y1 a ∧ Cn yn n2 y2 b) ∧ ((ln a ≤ 400 ∧ ln b ≤ 400) ∧ ln (a - b) ≤ 400) ∧ K (.tup [d_val (a - b), .v (.int .i64 0)]))
  | _ => none
theorem entq_vSub_ok : EntQOk Try.prog 30 entq_vSub := by
  intro ds K p h hp; unfold entq_vSub at h; split at h
  · injection h with h; subst h
    obtain ⟨a, b, ⟨⟨⟨rfl, rfl⟩, rfl⟩, ⟨⟨rfl, rfl⟩, rfl⟩⟩, hc, hk⟩ := hp
    exact ⟨_, vSub_pure a b hc, hk⟩
  · cases h
theorem vMul_pure (a b : Int) (hpre : (ln a ≤ 400 ∧ ln b ≤ 400) ∧ ln (a * b) ≤ 400) : PureJ Try.prog 32 [d_val a, d_val b] (.tup [d_val (a * b), .v (.int .i64 0)]) := by
  have h := hMul_pure (decide (a < 0)) (ofL a) (decide (b < 0)) (ofL b) ⟨lenOk_val hpre.1.1, lenOk_val hpre.1.2⟩
  rw [valid_val hpre.1.1, valid_val hpre.1.2, iv_of, iv_of] at h
  simp only [arS, Bool.and_self, cond_true, okS_val hpre.2] at h
  exact h
def entq_vMul : EntQ := fun ds K => match ds with
  | [.agg [.v (.bool xn), .ro n1 y1], .agg [.v (.bool yn), .ro n2 y2]] => some (∃ a b : Int, (Cn xn n1 y1 a ∧ Cn yn n2 y2 b) ∧ ((ln a ≤ 400 ∧ ln b ≤ 400) ∧ ln (a * b) ≤ 400) ∧ K (.tup [d_val (a * b), .v (.int .i64 0)]))
  | _ => none
theorem entq_vMul_ok : EntQOk Try.prog 32 entq_vMul := by
  intro ds K p h hp; unfold entq_vMul at h; split at h
  · injection h with h; subst h
    obtain ⟨a, b, ⟨⟨⟨rfl, rfl⟩, rfl⟩, ⟨⟨rfl, rfl⟩, rfl⟩⟩, hc, hk⟩ := hp
    exact ⟨_, vMul_pure a b hc, hk⟩
  · cases h
theorem vNeg_pure (a : Int) (hpre : ln a ≤ 400) : PureJ Try.prog 25 [d_val a] (.tup [d_val (-a), .v (.int .i64 0)]) := by
  have h := hNeg_pure (decide (a < 0)) (ofL a) (lenOk_val hpre)
  rw [valid_val hpre, iv_of] at h
  simp only [arS, cond_true, okS_val (show ln (-a) ≤ 400 by rw [ln_neg]; exact hpre)] at h
  exact h
def entq_vNeg : EntQ := fun ds K => match ds with
  | [.agg [.v (.bool xn), .ro n1 y1]] => some (∃ a : Int, Cn xn n1 y1 a ∧ (ln a ≤ 400) ∧ K (.tup [d_val (-a), .v (.int .i64 0)]))
  | _ => none
theorem entq_vNeg_ok : EntQOk Try.prog 25 entq_vNeg := by
  intro ds K p h hp; unfold entq_vNeg at h; split at h
  · injection h with h; subst h
    obtain ⟨a, ⟨⟨rfl, rfl⟩, rfl⟩, hc, hk⟩ := hp
    exact ⟨_, vNeg_pure a hc, hk⟩
  · cases h
theorem vCompare_pure (a b : Int) (hpre : ln a ≤ 400 ∧ ln b ≤ 400) : PureJ Try.prog 21 [d_val a, d_val b] (.v (.int .i64 (cmpZ a b))) := by
  have h := iCompare_pure (decide (a < 0)) (ofL a) (decide (b < 0)) (ofL b) ⟨by have := hpre.1; unfold ln at this; omega, by have := hpre.2; unfold ln at this; omega⟩
  rw [cmpI_good (good_of a) (good_of b) hpre.1 hpre.2, iv_of, iv_of] at h
  exact h
def entq_vCompare : EntQ := fun ds K => match ds with
  | [.agg [.v (.bool xn), .ro n1 y1], .agg [.v (.bool yn), .ro n2 y2]] => some (∃ a b : Int, (Cn xn n1 y1 a ∧ Cn yn n2 y2 b) ∧ (ln a ≤ 400 ∧ ln b ≤ 400) ∧ K (.v (.int .i64 (cmpZ a b))))
  | _ => none
theorem entq_vCompare_ok : EntQOk Try.prog 21 entq_vCompare := by
  intro ds K p h hp; unfold entq_vCompare at h; split at h
  · injection h with h; subst h
    obtain ⟨a, b, ⟨⟨⟨rfl, rfl⟩, rfl⟩, ⟨⟨rfl, rfl⟩, rfl⟩⟩, hc, hk⟩ := hp
    exact ⟨_, vCompare_pure a b hc, hk⟩
  · cases h
theorem same_val (a b : Int) : ((decide (a < 0) == decide (b < 0)) && (cmpL (ofL a) (ofL b) == 0)) = decide (a = b) := by
  have h : cmpL (ofL a) (ofL b) = cmpN a.natAbs b.natAbs := cmpL_dg _ _
  rw [h, Bool.eq_iff_iff]
  unfold cmpN
  simp only [Bool.and_eq_true, beq_iff_eq, decide_eq_true_eq, decide_eq_decide]
  constructor
  · rintro ⟨h1, h2⟩
    split at h2
    · exact absurd h2 (by decide)
    · split at h2
      · exact absurd h2 (by decide)
      · omega
  · rintro rfl
    simp
theorem vSame_pure (a b : Int) (hpre : ln a ≤ 400) : PureJ Try.prog 36 [d_val a, d_val b] (.v (.bool (decide (a = b)))) := by
  have h := gSame_pure (decide (a < 0)) (ofL a) (decide (b < 0)) (ofL b) (by unfold ln at hpre; omega)
  rw [same_val] at h
  exact h
def entq_vSame : EntQ := fun ds K => match ds with
  | [.agg [.v (.bool xn), .ro n1 y1], .agg [.v (.bool yn), .ro n2 y2]] => some (∃ a b : Int, (Cn xn n1 y1 a ∧ Cn yn n2 y2 b) ∧ (ln a ≤ 400) ∧ K (.v (.bool (decide (a = b)))))
  | _ => none
theorem entq_vSame_ok : EntQOk Try.prog 36 entq_vSame := by
  intro ds K p h hp; unfold entq_vSame at h; split at h
  · injection h with h; subst h
    obtain ⟨a, b, ⟨⟨⟨rfl, rfl⟩, rfl⟩, ⟨⟨rfl, rfl⟩, rfl⟩⟩, hc, hk⟩ := hp
    exact ⟨_, vSame_pure a b hc, hk⟩
  · cases h
theorem vsum_pure (a b : Int) (hpre : (ln a ≤ 400 ∧ ln b ≤ 400) ∧ ln (a + b) ≤ 400) : PureJ Try.prog 41 [d_val a, d_val b] (d_val (a + b)) := by
  refine pureJ_of_vcx (call := addQ 28 entq_vAdd noCalls) (lp := fun _ => none) (N := 10) T_ok mixed (addQ_ok entq_vAdd_ok noCalls_ok) Try.func41 rfl (by decide) (by kernel_rfl) (by kernel_rfl) (LpAll.none _) (by simp [NamelessL, nl_val]) (nl_val _) ?_
  refine of_eq (B := (True ∧ (True ∧ (True ∧ (((2 : Nat) ≤ (2 : Nat)) ∧ (((2 : Nat) ≤ (2 : Nat)) ∧ (∃ (a_1 : Int), (∃ (b_1 : Int), (((Cn (Decidable.decide (a < (0 : Int))) (List.length (ofL a)) (u32s (ofL a)) a_1) ∧ (Cn (Decidable.decide (b < (0 : Int))) (List.length (ofL b)) (u32s (ofL b)) b_1)) ∧ (((((ln a_1) ≤ (400 : Nat)) ∧ ((ln b_1) ≤ (400 : Nat))) ∧ ((ln (a_1 + b_1)) ≤ (400 : Nat))) ∧ (True ∧ (True ∧ (True ∧ (True ∧ ((((2 : Nat) = (2 : Nat)) ∧ ((2 : Nat) ≤ (2 : Nat))) ∧ (True ∧ (((2 : Nat) ≤ (2 : Nat)) ∧ ((((2 : Nat) = (2 : Nat)) ∧ ((2 : Nat) ≤ (2 : Nat))) ∧ ((((2 : Nat) ≤ (2 : Nat)) ∧ True) ∧ ((True ∧ (True ∧ True)) ∧ ((D.agg [(D.v (Value.bool (Decidable.decide ((a_1 + b_1) < (0 : Int))))), (D.ro (List.length (ofL (a_1 + b_1))) (u32s (ofL (a_1 + b_1))))]) = (D.agg [(D.v (Value.bool (Decidable.decide ((a + b) < (0 : Int))))), (D.ro (List.length (ofL (a + b))) (u32s (ofL (a + b))))])))))))))))))))))))))) (by kernel_rfl) ?_
  simp only [true_and, and_true, and_self, IsInt_lit, IsBool_lit, IsStr_lit, Bool.not_eq_true', Bool.not_eq_false', Bool.not_true, Bool.not_false, Int.reduceLE, Int.reduceLT, Int.reduceNeg, Nat.le_refl, Int.le_refl, Nat.reduceLT, Nat.reduceLeDiff, Nat.reduceEqDiff, D.v.injEq, D.tup.injEq, D.agg.injEq, D.ro.injEq, List.cons.injEq, Value.int.injEq, Value.bool.injEq, pcond_true, pcond_false, NamelessL, Nameless, Nat.reduceMul, Nat.reduceAdd, Nat.zero_add, Int.toNat_natCast]
  exact ⟨a, b, ⟨Cn.self a, Cn.self b⟩, hpre, rfl, rfl, rfl⟩
def entq_vsum : EntQ := fun ds K => match ds with
  | [.agg [.v (.bool xn), .ro n1 y1], .agg [.v (.bool yn), .ro n2 y2]] => some (∃ a b : Int, (Cn xn n1 y1 a ∧ Cn yn n2 y2 b) ∧ ((ln a ≤ 400 ∧ ln b ≤ 400) ∧ ln (a + b) ≤ 400) ∧ K (d_val (a + b)))
  | _ => none
theorem entq_vsum_ok : EntQOk Try.prog 41 entq_vsum := by
  intro ds K p h hp; unfold entq_vsum at h; split at h
  · injection h with h; subst h
    obtain ⟨a, b, ⟨⟨⟨rfl, rfl⟩, rfl⟩, ⟨⟨rfl, rfl⟩, rfl⟩⟩, hc, hk⟩ := hp
    exact ⟨_, vsum_pure a b hc, hk⟩
  · cases h
theorem vprod_pure (a b : Int) (hpre : (ln a ≤ 400 ∧ ln b ≤ 400) ∧ ln (a * b) ≤ 400) : PureJ Try.prog 42 [d_val a, d_val b] (d_val (a * b)) := by
  refine pureJ_of_vcx (call := addQ 32 entq_vMul noCalls) (lp := fun _ => none) (N := 10) T_ok mixed (addQ_ok entq_vMul_ok noCalls_ok) Try.func42 rfl (by decide) (by kernel_rfl) (by kernel_rfl) (LpAll.none _) (by simp [NamelessL, nl_val]) (nl_val _) ?_
  refine of_eq (B := (True ∧ (True ∧ (True ∧ (((2 : Nat) ≤ (2 : Nat)) ∧ (((2 : Nat) ≤ (2 : Nat)) ∧ (∃ (a_1 : Int), (∃ (b_1 : Int), (((Cn (Decidable.decide (a < (0 : Int))) (List.length (ofL a)) (u32s (ofL a)) a_1) ∧ (Cn (Decidable.decide (b < (0 : Int))) (List.length (ofL b)) (u32s (ofL b)) b_1)) ∧ (((((ln a_1) ≤ (400 : Nat)) ∧ ((ln b_1) ≤ (400 : Nat))) ∧ ((ln (a_1 * b_1)) ≤ (400 : Nat))) ∧ (True ∧ (True ∧ (True ∧ (True ∧ ((((2 : Nat) = (2 : Nat)) ∧ ((2 : Nat) ≤ (2 : Nat))) ∧ (True ∧ (((2 : Nat) ≤ (2 : Nat)) ∧ ((((2 : Nat) = (2 : Nat)) ∧ ((2 : Nat) ≤ (2 : Nat))) ∧ ((((2 : Nat) ≤ (2 : Nat)) ∧ True) ∧ ((True ∧ (True ∧ True)) ∧ ((D.agg [(D.v (Value.bool (Decidable.decide ((a_1 * b_1) < (0 : Int))))), (D.ro (List.length (ofL (a_1 * b_1))) (u32s (ofL (a_1 * b_1))))]) = (D.agg [(D.v (Value.bool (Decidable.decide ((a * b) < (0 : Int))))), (D.ro (List.length (ofL (a * b))) (u32s (ofL (a * b))))])))))))))))))))))))))) (by kernel_rfl) ?_
  simp only [true_and, and_true, and_self, IsInt_lit, IsBool_lit, IsStr_lit, Bool.not_eq_true', Bool.not_eq_false', Bool.not_true, Bool.not_false, Int.reduceLE, Int.reduceLT, Int.reduceNeg, Nat.le_refl, Int.le_refl, Nat.reduceLT, Nat.reduceLeDiff, Nat.reduceEqDiff, D.v.injEq, D.tup.injEq, D.agg.injEq, D.ro.injEq, List.cons.injEq, Value.int.injEq, Value.bool.injEq, pcond_true, pcond_false, NamelessL, Nameless, Nat.reduceMul, Nat.reduceAdd, Nat.zero_add, Int.toNat_natCast]
  exact ⟨a, b, ⟨Cn.self a, Cn.self b⟩, hpre, rfl, rfl, rfl⟩
def entq_vprod : EntQ := fun ds K => match ds with
  | [.agg [.v (.bool xn), .ro n1 y1], .agg [.v (.bool yn), .ro n2 y2]] => some (∃ a b : Int, (Cn xn n1 y1 a ∧ Cn yn n2 y2 b) ∧ ((ln a ≤ 400 ∧ ln b ≤ 400) ∧ ln (a * b) ≤ 400) ∧ K (d_val (a * b)))
  | _ => none
theorem entq_vprod_ok : EntQOk Try.prog 42 entq_vprod := by
  intro ds K p h hp; unfold entq_vprod at h; split at h
  · injection h with h; subst h
    obtain ⟨a, b, ⟨⟨⟨rfl, rfl⟩, rfl⟩, ⟨⟨rfl, rfl⟩, rfl⟩⟩, hc, hk⟩ := hp
    exact ⟨_, vprod_pure a b hc, hk⟩
  · cases h
theorem vSize_pure (a : Int) (hpre : ln a ≤ 400) : PureJ Try.prog 43 [d_val a] (d_val (a.natAbs : Int)) := by
  refine pureJ_of_vcx (call := addPure 59 ent_made noCalls) (lp := fun _ => none) (N := 10) T_ok mixed (addPure_ok ent_made_ok noCalls_ok) Try.func43 rfl (by decide) (by kernel_rfl) (by kernel_rfl) (LpAll.none _) (by simp [NamelessL, nl_val]) (nl_val _) ?_
  refine of_eq (B := (True ∧ (True ∧ (True ∧ (((1 : Nat) < (2 : Nat)) ∧ (((((u32s (ofL a)) = (u32s (unu (u32s (ofL a))))) ∧ ((List.length (ofL a)) = (List.length (unu (u32s (ofL a)))))) ∧ ((List.length (unu (u32s (ofL a)))) ≤ (1000000 : Nat))) ∧ ((((2 : Nat) = (2 : Nat)) ∧ ((2 : Nat) ≤ (2 : Nat))) ∧ ((((2 : Nat) ≤ (2 : Nat)) ∧ True) ∧ ((True ∧ (True ∧ True)) ∧ ((D.agg [(D.v (Value.bool (madeN Bool.false (unu (u32s (ofL a)))))), (D.ro (List.length (trimL (unu (u32s (ofL a))))) (u32s (trimL (unu (u32s (ofL a))))))]) = (D.agg [(D.v (Value.bool (Decidable.decide ((((Int.natAbs a) : Nat) : Int) < (0 : Int))))), (D.ro (List.length (ofL (((Int.natAbs a) : Nat) : Int))) (u32s (ofL (((Int.natAbs a) : Nat) : Int))))]))))))))))) (by kernel_rfl) ?_
  simp only [true_and, and_true, and_self, IsInt_lit, IsBool_lit, IsStr_lit, Bool.not_eq_true', Bool.not_eq_false', Bool.not_true, Bool.not_false, Int.reduceLE, Int.reduceLT, Int.reduceNeg, Nat.le_refl, Int.le_refl, Nat.reduceLT, Nat.reduceLeDiff, Nat.reduceEqDiff, D.v.injEq, D.tup.injEq, D.agg.injEq, D.ro.injEq, List.cons.injEq, Value.int.injEq, Value.bool.injEq, pcond_true, pcond_false, NamelessL, Nameless, Nat.reduceMul, Nat.reduceAdd, Nat.zero_add, Int.toNat_natCast, unu_u32s]
  have hm := madeN_dg false a.natAbs
  have e : ofL ((a.natAbs : Nat) : Int) = ofL a := by unfold ofL; simp
  have e2 : decide (((a.natAbs : Nat) : Int) < 0) = false := by simp
  unfold ln at hpre
  have h1 : madeN false (ofL a) = false := by unfold ofL; rw [hm.1]; rfl
  have h2 : trimL (ofL a) = ofL a := hm.2
  rw [e, e2, h1, h2]
  exact ⟨by omega, rfl, rfl, rfl⟩
def entq_vSize : EntQ := fun ds K => match ds with
  | [.agg [.v (.bool xn), .ro n1 y1]] => some (∃ a : Int, Cn xn n1 y1 a ∧ (ln a ≤ 400) ∧ K (d_val (a.natAbs : Int)))
  | _ => none
theorem entq_vSize_ok : EntQOk Try.prog 43 entq_vSize := by
  intro ds K p h hp; unfold entq_vSize at h; split at h
  · injection h with h; subst h
    obtain ⟨a, ⟨⟨rfl, rfl⟩, rfl⟩, hc, hk⟩ := hp
    exact ⟨_, vSize_pure a hc, hk⟩
  · cases h
theorem iSignI_pure (xn : Bool) (xs : List Nat) (hpre : xs.length ≤ 1000000000000) : PureJ Try.prog 19 [.agg [.v (.bool xn), .ro xs.length (u32s xs)]] (.v (.int .i64 (cmpI xn xs false []))) := by
  refine pureJ_of_vcx (call := (addPure 21 (nilEnt ent_iCompare) noCalls)) (lp := fun _ => none) (N := 10) T_ok mixed (addPure_ok (nilEnt_ok ent_iCompare_ok) noCalls_ok) Try.func19 rfl (by decide) (by kernel_rfl) (by kernel_rfl) (LpAll.none _) (by first | trivial | (simp only [NamelessL, Nameless, and_self, and_true, true_and]; done) | (simp [NamelessL, Nameless, u32s_nameless, namelessL_ints]; done)) (by first | trivial | (simp only [NamelessL, Nameless, and_self, and_true, true_and]; done) | (simp [NamelessL, Nameless, u32s_nameless, namelessL_ints]; done)) ?_
  refine of_eq (B := (True ∧ (True ∧ (((2 : Nat) ≤ (2 : Nat)) ∧ (True ∧ ((((([] : List D) = (u32s (unu ([] : List D)))) ∧ ((0 : Nat) = (0 : Nat))) ∧ ((((u32s xs) = (u32s (unu (u32s xs)))) ∧ ((List.length xs) = (List.length (unu (u32s xs))))) ∧ (((List.length (unu (u32s xs))) ≤ (1000000000000 : Nat)) ∧ ((0 : Nat) ≤ (1000000000000 : Nat))))) ∧ (True ∧ (True ∧ (True ∧ ((D.v (Value.int IntKind.i64 (cmpI xn (unu (u32s xs)) Bool.false (unu ([] : List D))))) = (D.v (Value.int IntKind.i64 (cmpI xn xs Bool.false ([] : List Nat)))))))))))))) (by kernel_rfl) ?_
  simp only [true_and, and_true, and_self, IsInt_lit, IsBool_lit, IsStr_lit, Bool.not_eq_true', Bool.not_eq_false', Bool.not_true, Bool.not_false, Int.reduceLE, Int.reduceLT, Int.reduceNeg, Nat.le_refl, Int.le_refl, Nat.reduceLT, Nat.reduceLeDiff, Nat.reduceEqDiff, D.v.injEq, D.tup.injEq, D.agg.injEq, D.ro.injEq, List.cons.injEq, Value.int.injEq, Value.bool.injEq, pcond_true, pcond_false, NamelessL, Nameless, Nat.reduceMul, Nat.reduceAdd, Nat.zero_add, Int.toNat_natCast, unu_u32s]
  exact ⟨⟨rfl, hpre⟩, rfl⟩
def ent_iSignI : Ent := fun ds => match ds with
  | [.agg [.v (.bool xn), .ro n_xs ys_xs]] => some (.v (.int .i64 (cmpI xn (unu ys_xs) false [])), (ys_xs = u32s (unu ys_xs) ∧ n_xs = (unu ys_xs).length) ∧ (unu ys_xs).length ≤ 1000000000000)
  | _ => none
theorem ent_iSignI_ok : EntOk Try.prog 19 ent_iSignI := by
  intro ds d c h hc; unfold ent_iSignI at h; split at h
  · rename_i xn n_xs ys_xs; obtain ⟨rfl, rfl⟩ := pair_inj h
    obtain ⟨⟨h1, h2⟩, hc⟩ := hc; subst h2; generalize (unu ys_xs) = xs at *; subst h1
    exact iSignI_pure _ xs hc
  · cases h
theorem vSign_pure (a : Int) (hpre : ln a ≤ 400) : PureJ Try.prog 19 [d_val a] (.v (.int .i64 a.sign)) := by
  have h := iSignI_pure (decide (a < 0)) (ofL a) (by unfold ln at hpre; omega)
  rw [cmpI_good (good_of a) good_zero hpre (by simp), iv_of, iv_zero, cmpZ_zero] at h
  exact h
def entq_vSign : EntQ := fun ds K => match ds with
  | [.agg [.v (.bool xn), .ro n1 y1]] => some (∃ a : Int, Cn xn n1 y1 a ∧ (ln a ≤ 400) ∧ K (.v (.int .i64 a.sign)))
  | _ => none
theorem entq_vSign_ok : EntQOk Try.prog 19 entq_vSign := by
  intro ds K p h hp; unfold entq_vSign at h; split at h
  · injection h with h; subst h
    obtain ⟨a, ⟨⟨rfl, rfl⟩, rfl⟩, hc, hk⟩ := hp
    exact ⟨_, vSign_pure a hc, hk⟩
  · cases h
end Go.Proofs.Ytgilijgbljgekaa
