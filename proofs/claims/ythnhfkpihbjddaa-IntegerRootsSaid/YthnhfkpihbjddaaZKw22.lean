import Derived.Test.YthnhfkpihbjddaaZKw15
import Derived.Test.YthnhfkpihbjddaaZKw21
import Derived.Test.YthnhfkpihbjddaaZKw6
import Derived.Test.YthnhfkpihbjddaaZKw8
import Derived.ChangeArms
import Derived.OpenShut
import Derived.FnData
section
namespace Go.Proofs.Ythnhfkpihbjddaa
open Go.VD
set_option linter.unusedVariables false
set_option linter.unusedSimpArgs false
set_option maxRecDepth 100000
theorem vRoot_pure (a : Int) (hpre : ln a ≤ 400 ∧ 0 ≤ a) : PureJ Try.prog 19 [d_val a] (.tup [d_val (sq a.natAbs : Nat), .v (.int .i64 0)]) := by
  have h := hRoot_pure (decide (a < 0)) (ofL a) (lenOk_val hpre.1)
  rw [valid_val hpre.1, nv_of, decide_eq_false (show ¬ a < 0 by omega)] at h
  have e0 : d_val a = .agg [.v (.bool false), .ro (ofL a).length (u32s (ofL a))] := by unfold d_val; rw [decide_eq_false (by omega)]
  have e : d_val (sq a.natAbs : Nat) = d_int false (dg (sq a.natAbs)) := by
    unfold d_val d_int
    rw [decide_eq_false (by omega)]
    unfold ofL; simp
  rw [e, e0]
  simp only [gcS, Bool.not_false, Bool.and_self, cond_true] at h
  exact h
def entq_vRoot : EntQ := fun ds K => match ds with
  | [.agg [.v (.bool xn), .ro n1 y1]] => some (∃ a : Int, Cn xn n1 y1 a ∧ (ln a ≤ 400 ∧ 0 ≤ a) ∧ ∀ s : Int, 0 ≤ s ∧ s * s ≤ a ∧ a < (s + 1) * (s + 1) → K (.tup [d_val s, .v (.int .i64 0)]))
  | _ => none
theorem entq_vRoot_ok : EntQOk Try.prog 19 entq_vRoot := by
  intro ds K p h hp; unfold entq_vRoot at h; split at h
  · injection h with h; subst h
    obtain ⟨a, ⟨⟨rfl, rfl⟩, rfl⟩, hc, hk⟩ := hp
    refine ⟨_, vRoot_pure a hc, hk _ ?_⟩
    obtain ⟨s1, s2⟩ := sq_spec a.natAbs
    obtain ⟨n, rfl⟩ := Int.eq_ofNat_of_zero_le hc.2
    simp only [Int.ofNat_eq_natCast, Int.natAbs_natCast] at *
    refine ⟨by omega, ?_, ?_⟩
    · rw [← Int.natCast_mul]; exact Int.ofNat_le.2 s1
    · have e : ((sq n : Nat) : Int) + 1 = ((sq n + 1 : Nat) : Int) := by simp
      rw [e, ← Int.natCast_mul]; exact Int.ofNat_lt.2 s2
  · cases h
theorem gLarge1_pure (xn : Bool) (xs : List Nat) : PureJ Try.prog 12 [.ro 1 [.v (.bool xn), .ro xs.length (u32s xs)]] (.v (.bool (decide (40 < xs.length)))) := by
  refine pureJ_of_vcx (call := noCalls) (lp := fun _ => none) (N := 3) T_ok mixed noCalls_ok Try.func12 rfl (by decide) (by kernel_rfl) (by kernel_rfl) (LpAll.none _) (by first | trivial | (simp only [NamelessL, Nameless, and_self, and_true, true_and]; done) | (simp [NamelessL, Nameless, u32s_nameless, namelessL_ints]; done)) (by first | trivial | (simp only [NamelessL, Nameless, and_self, and_true, true_and]; done) | (simp [NamelessL, Nameless, u32s_nameless, namelessL_ints]; done)) ?_
  refine of_eq (B := letI z0 := (D.v (Value.bool (Decidable.decide ((40 : Nat) < (List.length xs))))); (True ∧ (True ∧ (True ∧ (True ∧ (True ∧ (True ∧ (True ∧ (True ∧ ((((0 : Int) ≤ (0 : Int)) ∧ ((0 : Int) < (1 : Int))) ∧ (True ∧ (((1 : Nat) < (2 : Nat)) ∧ (True ∧ (True ∧ (pcond (Decidable.decide ((40 : Int) < (((List.length xs) : Nat) : Int))) (True ∧ (True ∧ (True ∧ ((D.v (Value.bool Bool.true)) = z0)))) (True ∧ (True ∧ (True ∧ (True ∧ (True ∧ (True ∧ (True ∧ (True ∧ (True ∧ (True ∧ ((D.v (Value.bool Bool.false)) = z0)))))))))))))))))))))))))) (by kernel_rfl) ?_
  simp only [true_and, and_true, and_self, IsInt_lit, IsBool_lit, IsStr_lit, Bool.not_eq_true', Bool.not_eq_false', Bool.not_true, Bool.not_false, Int.reduceLE, Int.reduceLT, Int.reduceNeg, Nat.le_refl, Int.le_refl, Nat.reduceLT, Nat.reduceLeDiff, Nat.reduceEqDiff, D.v.injEq, D.tup.injEq, D.agg.injEq, D.ro.injEq, List.cons.injEq, Value.int.injEq, Value.bool.injEq, pcond_true, pcond_false, NamelessL, Nameless, Nat.reduceMul, Nat.reduceAdd, Nat.zero_add, Int.toNat_natCast, unu_u32s]
  have e : ∀ n : Nat, decide ((40 : Int) < (n : Int)) = decide (40 < n) := fun n => by rw [decide_eq_decide]; omega
  rw [e]
  refine pcond_intro (fun h => ?_) (fun h => ?_) <;> simp [*]
def ent_gLarge1 : Ent := fun ds => match ds with
  | [.ro 1 [.v (.bool xn), .ro n_xs ys_xs]] => some (.v (.bool (decide (40 < (unu ys_xs).length))), (ys_xs = u32s (unu ys_xs) ∧ n_xs = (unu ys_xs).length) ∧ True)
  | _ => none
theorem ent_gLarge1_ok : EntOk Try.prog 12 ent_gLarge1 := by
  intro ds d c h hc; unfold ent_gLarge1 at h; split at h
  · rename_i xn n_xs ys_xs; obtain ⟨rfl, rfl⟩ := pair_inj h
    obtain ⟨⟨h1, h2⟩, hc⟩ := hc; subst h2; generalize (unu ys_xs) = xs at *; subst h1
    exact gLarge1_pure _ xs
  · cases h
theorem lawRoots_pure (xn : Bool) (xs : List Nat) (hpre : Dig xs) : PureJ Try.prog 5 [.agg [.v (.bool xn), .ro xs.length (u32s xs)]] (.v (.bool true)) := by
  refine pureJ_of_vcx (call := (addPure 11 ent_known (addPure 12 ent_gLarge1 (addPure 21 ent_Valid (addQ 19 entq_vRoot (addQ 22 entq_vsum (addQ 23 entq_vprod (addPure 27 ent_iOf (addQ 16 entq_vSame (addQ 25 entq_vCompare (addQ 24 entq_vSign noCalls))))))))))) (lp := fun _ => none) (N := 10) T_ok mixed (addPure_ok ent_known_ok (addPure_ok ent_gLarge1_ok (addPure_ok ent_Valid_ok (addQ_ok entq_vRoot_ok (addQ_ok entq_vsum_ok (addQ_ok entq_vprod_ok (addPure_ok ent_iOf_ok (addQ_ok entq_vSame_ok (addQ_ok entq_vCompare_ok (addQ_ok entq_vSign_ok noCalls_ok)))))))))) Try.func5 rfl (by decide) (by kernel_rfl) (by kernel_rfl) (LpAll.none _) (by first | trivial | (simp only [NamelessL, Nameless, and_self, and_true, true_and]; done) | (simp [NamelessL, Nameless, u32s_nameless, namelessL_ints]; done)) (by first | trivial | (simp only [NamelessL, Nameless, and_self, and_true, true_and]; done) | (simp [NamelessL, Nameless, u32s_nameless, namelessL_ints]; done)) ?_
  refine of_eq (B := letI z0 := ((2 : Nat) ≤ (2 : Nat)); letI z8 := Bool.true = Bool.true; letI z5 := (D.v (Value.bool Bool.true)); letI z1 := (True ∧ (True ∧ (z8 ∧ (True ∧ (True ∧ ((D.v (Value.bool Bool.false)) = z5)))))); letI z2 := (True ∧ (True ∧ (True ∧ (z5 = z5)))); letI z3 := List.length xs; letI z9 := (unu (u32s xs)); letI z4 := (List.length z9); letI z6 := (((2 : Nat) = (2 : Nat)) ∧ z0); letI z7 := (((u32s xs) = (u32s z9)) ∧ (z3 = z4)); letI z10 := (9223372036854775808 : Int); letI z11 := (True ∧ (True ∧ z1)); letI z12 := ((0 : Nat) < (2 : Nat)); letI z13 := (D.v (Value.bool xn)); (True ∧ (True ∧ (True ∧ (True ∧ (z0 ∧ ((((2 : Nat) ≤ (16777216 : Nat)) ∧ ((1 : Nat) ≤ (9223372036854775807 : Nat))) ∧ (((((NamelessL [z13, (D.ro z3 (u32s xs))]) ∧ (z12 ∧ z0)) ∧ True) ∧ (z7 ∧ True)) ∧ (True ∧ (pcond (Decidable.decide ((40 : Nat) < z4)) (True ∧ (True ∧ (True ∧ z2))) (z0 ∧ ((z7 ∧ (z4 ≤ (1000000000000 : Nat))) ∧ (True ∧ (True ∧ (True ∧ (pcond (!(validL xn z9)) (True ∧ z2) (True ∧ ((z12 ∧ (IsBool z13)) ∧ (True ∧ (pcond xn z2 (z0 ∧ (∃ (a : Int), ((Cn xn z3 (u32s xs) a) ∧ ((((ln a) ≤ (400 : Nat)) ∧ ((0 : Int) ≤ a)) ∧ (∀ (s : Int), ((((0 : Int) ≤ s) ∧ (((s * s) ≤ a) ∧ (a < ((s + (1 : Int)) * (s + (1 : Int)))))) → (True ∧ (True ∧ (True ∧ (True ∧ (z6 ∧ (True ∧ (z0 ∧ ((((-z10) ≤ (1 : Int)) ∧ ((1 : Int) < z10)) ∧ (∃ (a_1 : Int), (∃ (b : Int), (((Cn (Decidable.decide (s < (0 : Int))) (List.length (ofL s)) (u32s (ofL s)) a_1) ∧ (Cn Bool.false (1 : Nat) (u32s (ofL (1 : Int))) b)) ∧ (((((ln a_1) ≤ (400 : Nat)) ∧ ((ln b) ≤ (400 : Nat))) ∧ ((ln (a_1 + b)) ≤ (400 : Nat))) ∧ (True ∧ (z6 ∧ (z8 ∧ (z0 ∧ (z0 ∧ (∃ (a_2 : Int), (∃ (b_1 : Int), (((Cn xn z3 (u32s xs) a_2) ∧ (Cn xn z3 (u32s xs) b_1)) ∧ (((((ln a_2) ≤ (400 : Nat)) ∧ ((ln b_1) ≤ (400 : Nat))) ∧ ((ln (a_2 * b_1)) ≤ (400 : Nat))) ∧ (∃ (a_3 : Int), ((Cn (Decidable.decide ((a_2 * b_1) < (0 : Int))) (List.length (ofL (a_2 * b_1))) (u32s (ofL (a_2 * b_1))) a_3) ∧ ((((ln a_3) ≤ (400 : Nat)) ∧ ((0 : Int) ≤ a_3)) ∧ (∀ (s_1 : Int), ((((0 : Int) ≤ s_1) ∧ (((s_1 * s_1) ≤ a_3) ∧ (a_3 < ((s_1 + (1 : Int)) * (s_1 + (1 : Int)))))) → (True ∧ (True ∧ (True ∧ (True ∧ (z6 ∧ (True ∧ (True ∧ (True ∧ (True ∧ (True ∧ (True ∧ (True ∧ (True ∧ (z0 ∧ (∃ (a_4 : Int), ((Cn (Decidable.decide (s < (0 : Int))) (List.length (ofL s)) (u32s (ofL s)) a_4) ∧ (((ln a_4) ≤ (400 : Nat)) ∧ (True ∧ (True ∧ (True ∧ (pcond (Decidable.decide ((0 : Int) ≤ (Int.sign a_4))) (z0 ∧ (z0 ∧ (∃ (a_5 : Int), (∃ (b_2 : Int), (((Cn (Decidable.decide (s < (0 : Int))) (List.length (ofL s)) (u32s (ofL s)) a_5) ∧ (Cn (Decidable.decide (s < (0 : Int))) (List.length (ofL s)) (u32s (ofL s)) b_2)) ∧ (((((ln a_5) ≤ (400 : Nat)) ∧ ((ln b_2) ≤ (400 : Nat))) ∧ ((ln (a_5 * b_2)) ≤ (400 : Nat))) ∧ (z0 ∧ (∃ (a_6 : Int), (∃ (b_3 : Int), (((Cn (Decidable.decide ((a_5 * b_2) < (0 : Int))) (List.length (ofL (a_5 * b_2))) (u32s (ofL (a_5 * b_2))) a_6) ∧ (Cn xn z3 (u32s xs) b_3)) ∧ ((((ln a_6) ≤ (400 : Nat)) ∧ ((ln b_3) ≤ (400 : Nat))) ∧ (True ∧ (True ∧ (True ∧ (pcond (Decidable.decide ((cmpZ a_6 b_3) ≤ (0 : Int))) (z0 ∧ (z0 ∧ (∃ (a_7 : Int), (∃ (b_4 : Int), (((Cn (Decidable.decide ((a_1 + b) < (0 : Int))) (List.length (ofL (a_1 + b))) (u32s (ofL (a_1 + b))) a_7) ∧ (Cn (Decidable.decide ((a_1 + b) < (0 : Int))) (List.length (ofL (a_1 + b))) (u32s (ofL (a_1 + b))) b_4)) ∧ (((((ln a_7) ≤ (400 : Nat)) ∧ ((ln b_4) ≤ (400 : Nat))) ∧ ((ln (a_7 * b_4)) ≤ (400 : Nat))) ∧ (z0 ∧ (∃ (a_8 : Int), (∃ (b_5 : Int), (((Cn (Decidable.decide ((a_7 * b_4) < (0 : Int))) (List.length (ofL (a_7 * b_4))) (u32s (ofL (a_7 * b_4))) a_8) ∧ (Cn xn z3 (u32s xs) b_5)) ∧ ((((ln a_8) ≤ (400 : Nat)) ∧ ((ln b_5) ≤ (400 : Nat))) ∧ (True ∧ (True ∧ (True ∧ (pcond (Decidable.decide ((0 : Int) < (cmpZ a_8 b_5))) (z0 ∧ (z0 ∧ (∃ (a_9 : Int), (∃ (b_6 : Int), (((Cn (Decidable.decide (s_1 < (0 : Int))) (List.length (ofL s_1)) (u32s (ofL s_1)) a_9) ∧ (Cn xn z3 (u32s xs) b_6)) ∧ (((ln a_9) ≤ (400 : Nat)) ∧ (True ∧ (True ∧ (z8 ∧ (True ∧ (True ∧ ((D.v (Value.bool (Decidable.decide (a_9 = b_6)))) = z5)))))))))))) z1))))))))))))))) z11))))))))))))))) (True ∧ (True ∧ z11))))))))))))))))))))))))))))))))))))))))))))))))))))))))))))))))))))))))))) (by kernel_rfl) ?_
  simp only [true_and, and_true, and_self, IsInt_lit, IsBool_lit, IsStr_lit, Bool.not_eq_true', Bool.not_eq_false', Bool.not_true, Bool.not_false, Int.reduceLE, Int.reduceLT, Int.reduceNeg, Nat.le_refl, Int.le_refl, Nat.reduceLT, Nat.reduceLeDiff, Nat.reduceEqDiff, D.v.injEq, D.tup.injEq, D.agg.injEq, D.ro.injEq, List.cons.injEq, Value.int.injEq, Value.bool.injEq, pcond_true, pcond_false, NamelessL, Nameless, Nat.reduceMul, Nat.reduceAdd, Nat.zero_add, Int.toNat_natCast, unu_u32s]
  refine ⟨u32s_nameless _, pcond_intro (fun _ => trivial) (fun h => ⟨by simp only [decide_eq_false_iff_not] at h; omega, pcond_intro (fun _ => trivial) (fun h1 => pcond_intro (fun _ => trivial) (fun h2 => ?_))⟩)⟩
  simp only [decide_eq_false_iff_not] at h
  simp only [Bool.not_eq_false'] at h1
  obtain ⟨cx, lx⟩ := cn_valid hpre h1
  generalize iv xn xs = X at *
  have lx : ln X ≤ 40 := by omega
  have hX : 0 ≤ X := by
    have := cx.1.1
    rw [h2] at this
    have := of_decide_eq_false this.symm
    omega
  clear h1 h2 hpre h
  have one : (ofL 1).length = 1 := by unfold ofL; rw [show (1 : Int).natAbs = 1 from rfl, dg_pos (by decide)]; simp [dg_zero]
  have c1 : Cn false 1 (u32s (ofL 1)) 1 := ⟨⟨by decide, one.symm⟩, rfl⟩
  have lone : ln 1 ≤ 40 := by unfold ln; omega
  refine ⟨X, cx, ⟨by omega, hX⟩, fun s hs => ?_⟩
  obtain ⟨s0, s1, s2⟩ := hs
  have hsX : s ≤ X := by
    rcases Int.le_total s 0 with h0 | h0
    · omega
    · rcases Int.lt_or_le s 1 with h3 | h3
      · omega
      · have := Int.mul_le_mul_of_nonneg_left h3 h0
        omega
  have ls : ln s ≤ 40 := Nat.le_trans (dg_len_mono (show s.natAbs ≤ X.natAbs by omega)) lx
  have p1 := ln_add ls lone
  have p2 := ln_mul lx lx
  have p3 := ln_mul ls ls
  have p4 := ln_mul p1 p1
  have hXX : 0 ≤ X * X := Int.mul_nonneg hX hX
  refine ⟨s, 1, ⟨Cn.self s, c1⟩, ⟨⟨by omega, by omega⟩, by omega⟩, X, X, ⟨cx, cx⟩, ⟨⟨by omega, by omega⟩, by omega⟩, X * X, Cn.self _, ⟨by omega, hXX⟩, fun t ht => ?_⟩
  obtain ⟨t0, t1, t2⟩ := ht
  have htX : t = X := by
    rcases Int.lt_trichotomy t X with h3 | h3 | h3
    · have := Int.mul_le_mul (show t + 1 ≤ X from h3) (show t + 1 ≤ X from h3) (by omega) hX
      omega
    · exact h3
    · have := Int.mul_le_mul (show X + 1 ≤ t from h3) (show X + 1 ≤ t from h3) (by omega) t0
      have e : (X + 1) * (X + 1) = X * X + 2 * X + 1 := by grind
      omega
  subst htX
  refine ⟨s, Cn.self s, by omega, ?_⟩
  rw [show decide (0 ≤ s.sign) = true by rw [decide_eq_true_eq]; exact Int.sign_nonneg_iff.2 s0, pcond_true]
  refine ⟨s, s, ⟨Cn.self s, Cn.self s⟩, ⟨⟨by omega, by omega⟩, by omega⟩, s * s, t, ⟨Cn.self _, cx⟩, ⟨by omega, by omega⟩, ?_⟩
  rw [show decide (cmpZ (s * s) t ≤ 0) = true by rw [decide_eq_true_eq]; unfold cmpZ; rw [if_neg (show ¬ t < s * s by omega)]; split <;> omega, pcond_true]
  refine ⟨s + 1, s + 1, ⟨Cn.self _, Cn.self _⟩, ⟨⟨by omega, by omega⟩, by omega⟩, (s + 1) * (s + 1), t, ⟨Cn.self _, cx⟩, ⟨by omega, by omega⟩, ?_⟩
  rw [show decide (0 < cmpZ ((s + 1) * (s + 1)) t) = true by rw [decide_eq_true_eq]; unfold cmpZ; rw [if_neg (show ¬ (s + 1) * (s + 1) < t by omega), if_pos s2]; omega, pcond_true]
  exact ⟨t, t, ⟨Cn.self _, cx⟩, by omega, decide_eq_true rfl⟩
def ent_lawRoots : Ent := fun ds => match ds with
  | [.agg [.v (.bool xn), .ro n_xs ys_xs]] => some (.v (.bool true), (ys_xs = u32s (unu ys_xs) ∧ n_xs = (unu ys_xs).length) ∧ Dig (unu ys_xs))
  | _ => none
theorem ent_lawRoots_ok : EntOk Try.prog 5 ent_lawRoots := by
  intro ds d c h hc; unfold ent_lawRoots at h; split at h
  · rename_i xn n_xs ys_xs; obtain ⟨rfl, rfl⟩ := pair_inj h
    obtain ⟨⟨h1, h2⟩, hc⟩ := hc; subst h2; generalize (unu ys_xs) = xs at *; subst h1
    exact lawRoots_pure _ xs hc
  · cases h
end Go.Proofs.Ythnhfkpihbjddaa
end
section
namespace Go.VD
open Go.ChangeShapes Go.WideShapes Go.ChangeAt Go.RowKit
set_option linter.unusedVariables false
set_option linter.unusedSimpArgs false
mutual
def flatD {H : Type} : DataW H → Option (List Value)
  | .lit (.int k n) => some [.int k n]
  | .lit (.bool b) => some [.bool b]
  | .agg ps => flatDs ps
  | _ => none
def flatDs {H : Type} : List (DataW H) → Option (List Value)
  | [] => some []
  | d :: r => match flatD d, flatDs r with
    | some a, some b => some (a ++ b)
    | _, _ => none
end
section
variable {H : Type} {enc : TypeId × Value → H} {P : Program} {T : Tbl}
theorem flat_rows {w : World} {base : Nat} {spare : Nat → Bool} {held : Bool} {m sz : Nat} {e : TypeId} (ih : ∀ (cs : List Value) (x : DataW H × List MemPlace) (vals : List Value), DataW.trod enc P w base spare held m e cs = some x → flatD x.1 = some vals → cs = vals) :
    ∀ (xs : List (DataW H × List MemPlace)) (cs vals : List Value), cs.length = xs.length * sz → (∀ (i : Nat) (x : DataW H × List MemPlace), xs[i]? = some x → DataW.trod enc P w base spare held m e ((cs.drop (i * sz)).take sz) = some x) → flatDs (xs.map (·.1)) = some vals → cs = vals
  | [], cs, vals, hl, _, hf => by
    simp only [List.map_nil, flatDs, Option.some.injEq] at hf
    subst hf
    exact List.eq_nil_of_length_eq_zero (by simpa using hl)
  | x :: xs, cs, vals, hl, h, hf => by
    simp only [List.map_cons, flatDs] at hf
    split at hf
    · rename_i a b ha hb
      injection hf with hf; subst hf
      have h0 := h 0 x (by simp)
      simp only [Nat.zero_mul, List.drop_zero] at h0
      have e1 := ih _ _ _ h0 ha
      have hl' : (cs.drop sz).length = xs.length * sz := by
        rw [List.length_drop, hl, List.length_cons, Nat.add_mul, Nat.one_mul]; omega
      have e2 := flat_rows ih xs (cs.drop sz) b hl' (fun i y hy => by
        have := h (i + 1) y (by simpa using hy)
        rw [List.drop_drop]
        rwa [Nat.add_mul, Nat.one_mul, Nat.add_comm] at this) hb
      rw [← e1, ← e2, List.take_append_drop]
    · cases hf
theorem flat_fields {w : World} {base : Nat} {spare : Nat → Bool} {held : Bool} {m sz : Nat} (hT : TblOk P T) {cs : List Value} (hcs : cs.length = sz) :
    ∀ (fs : List (Nat × TypeId)) (off : Nat) (xs : List (DataW H × List MemPlace)) (vals : List Value), (∀ f ∈ fs, ∀ (cs : List Value) (x : DataW H × List MemPlace) (vals : List Value), DataW.trod enc P w base spare held m f.2 cs = some x → flatD x.1 = some vals → cs = vals) →
      contig T fs off sz = true → xs.length = fs.length → (∀ (i : Nat) (f : Nat × TypeId), fs[i]? = some f → DataW.trod enc P w base spare held m f.2 ((cs.drop f.1).take (P.cellsOf f.2)) = xs[i]?) → flatDs (xs.map (·.1)) = some vals → cs.drop off = vals
  | [], off, xs, vals, _, hc, hl, _, hf => by
    have hx : xs = [] := List.eq_nil_of_length_eq_zero (by simpa using hl)
    subst hx
    simp only [List.map_nil, flatDs, Option.some.injEq] at hf
    subst hf
    simp only [contig, beq_iff_eq] at hc
    rw [List.drop_eq_nil_of_le (by rw [hcs, hc]; exact Nat.le_refl _)]
  | f :: fs, off, [], vals, _, hc, hl, _, hf => by simp at hl
  | (o, ft) :: fs, off, x :: xs, vals, ih, hc, hl, h, hf => by
    simp only [List.map_cons, flatDs] at hf
    simp only [contig] at hc
    split at hc
    · rename_i ti hti
      simp only [Bool.and_eq_true, beq_iff_eq] at hc
      obtain ⟨rfl, hc⟩ := hc
      split at hf
      · rename_i a b ha hb
        injection hf with hf; subst hf
        have h0 := h 0 (o, ft) (by simp)
        rw [List.getElem?_cons_zero] at h0
        have e1 := ih (o, ft) (by simp) _ _ _ h0 ha
        have e2 := flat_fields hT hcs fs (o + ti.size) xs b (fun f hf => ih f (by simp [hf])) hc (by simpa using hl) (fun i f hi => by simpa using h (i + 1) f (by simpa using hi)) hb
        rw [(hT.ok ft _ hti).cellsOf] at e1
        rw [← e1, ← e2, ← List.drop_drop, List.take_append_drop]
      · cases hf
    · cases hc
theorem trod_flat (hT : TblOk P T) {w : World} {base : Nat} {spare : Nat → Bool} {held : Bool} : ∀ (n : Nat) (fuel : Nat) (t : TypeId), canRead T n t = true → ∀ (cs : List Value) (x : DataW H × List MemPlace) (vals : List Value),
    DataW.trod enc P w base spare held fuel t cs = some x → flatD x.1 = some vals → cs = vals
  | 0, fuel, t, h => by simp [canRead] at h
  | n + 1, fuel, t, hcan => by
    intro cs x vals h hf
    simp only [canRead] at hcan
    split at hcan
    · rename_i sz b z ht
      have hu := (hT.ok t _ ht).bool rfl
      cases fuel with
      | zero => simp [DataW.trod] at h
      | succ m =>
        unfold DataW.trod at h; rw [hu] at h
        split at h <;> simp_all
        rename_i y _
        subst h
        simp only [flatD, Option.some.injEq] at hf
        exact hf
    · rename_i k sz b z ht
      have hu := (hT.ok t _ ht).int rfl
      cases fuel with
      | zero => simp [DataW.trod] at h
      | succ m =>
        unfold DataW.trod at h; rw [hu] at h
        split at h <;> simp_all
        obtain ⟨⟨rfl, _⟩, rfl⟩ := h
        simp only [flatD, Option.some.injEq] at hf
        exact hf
    · rename_i sz b z ht
      have hu := (hT.ok t _ ht).str rfl
      cases fuel with
      | zero => simp [DataW.trod] at h
      | succ m =>
        unfold DataW.trod at h; rw [hu] at h
        split at h <;> simp_all
        obtain ⟨_, rfl⟩ := h
        simp [flatD] at hf
    · rename_i e sz b z ht
      have hu := (hT.ok t _ ht).slice rfl
      rcases DataW.trod_slice hu h with ⟨_, hx⟩ | ⟨a, len, cap, elems, rest, m, _, _, hx, _⟩
      · rw [hx] at hf; simp [flatD] at hf
      · rw [hx] at hf; simp [flatD] at hf
    · rename_i fs sz b z ht
      simp only [Bool.and_eq_true] at hcan
      obtain ⟨F, hF, hm⟩ := (hT.ok t _ ht).struct rfl
      obtain ⟨xs, m, _, hx, hcs, hxs, hread⟩ := DataW.trod_struct hF h
      rw [(hT.ok t _ ht).cellsOf] at hcs
      rw [hx] at hf
      simp only [flatD] at hf
      have hall := List.all_eq_true.1 hcan.2
      have hfl : fs.length = F.size := by rw [← hm]; simp
      have := flat_fields hT hcs fs 0 xs vals (fun f hf => trod_flat hT n m f.2 (hall f hf)) hcan.1 (by omega) (fun i f hi => by
        have hlt := (List.getElem?_eq_some_iff.1 hi).1
        have hFi : F[i]? = some (F[i]'(by omega)) := Array.getElem?_eq_getElem (by omega)
        have e : (F.toList.map fun f => (f.offset, f.type))[i]? = fs[i]? := by rw [hm]
        rw [List.getElem?_map, Array.getElem?_toList, hFi, hi] at e
        simp only [Option.map_some, Option.some.injEq] at e
        subst e
        exact hread i _ hFi) hf
      simpa using this
    · rename_i k e sz b z ht
      simp only [Bool.and_eq_true] at hcan
      have hu := (hT.ok t _ ht).arr rfl
      obtain ⟨xs, m, _, hx, hcs, hxs, hread⟩ := DataW.trod_array hu h
      rw [hx] at hf
      simp only [flatD] at hf
      have h2 := hcan.2
      split at h2
      · rename_i te hte
        rw [(hT.ok e _ hte).cellsOf] at hread
        rw [(hT.ok t _ ht).cellsOf] at hcs
        simp only [beq_iff_eq] at h2
        exact flat_rows (sz := te.size) (fun cs x vals => trod_flat hT n m e hcan.1 cs x vals) xs cs vals (by rw [hcs, h2, hxs]) (fun i y hy => by
          have := hread i (by have := (List.getElem?_eq_some_iff.1 hy).1; omega)
          rw [this, hy]) hf
      · cases h2
    · cases hcan
end
def globB (P : Program) (T : Tbl) (laid : List (String × DataW Unit)) : Bool := glob.all fun p => laid.any fun q => ((match P.globalNamed q.1 with
    | some g => Nat.beq g p.1
    | none => false) && (match (P.globals[p.1]?).map (·.type) with
    | some t => canRead T 20 t
    | none => false)) && (match flatD q.2 with
    | some vs => sameScalars p.2 vs
    | none => false)
theorem laidVars_mem {P : Program} {w : World} : ∀ (laid : List (String × DataW Unit)) (ps : List MemPlace), DataW.LaidVars P w laid ps → ∀ q ∈ laid, ∃ g t cs fuel p, P.globalNamed q.1 = some g ∧ (P.globals[g]?).map (·.type) = some t ∧ w.var? P q.1 = some cs ∧ DataW.trod (fun _ => ()) P w 0 (fun _ => true) false fuel t cs.toList = some (q.2, p)
  | [], _, _, q, hq => by simp at hq
  | (n, d) :: r, ps, h, q, hq => by
    obtain ⟨g, t, cs, fuel, p, q', h1, h2, h3, h4, h5, _⟩ := h
    rcases List.mem_cons.1 hq with rfl | hq
    · exact ⟨g, t, cs, fuel, p, h1, h2, h3, h4⟩
    · exact laidVars_mem r q' h5 q hq
theorem lookup_mem : ∀ {l : List (Nat × List Value)} {g : Nat} {xs : List Value}, l.lookup g = some xs → (g, xs) ∈ l
  | [], g, xs, h => by simp at h
  | (k, ys) :: l, g, xs, h => by
    rw [List.lookup_cons] at h
    split at h
    · rename_i hk
      injection h with h
      have : g = k := by simpa using hk
      subst this; subst h; simp
    · exact List.mem_cons_of_mem _ (lookup_mem h)
theorem gok_of_laid {P : Program} {T : Tbl} (hT : TblOk P T) {W : World} {laid : List (String × DataW Unit)} (hB : globB P T laid = true) (h : laidMet P laid W) : GOK (fun k => k < W.heap.size) W := by
  intro g xs hg
  obtain ⟨ps, hv, _⟩ := h
  have hm := lookup_mem hg
  unfold globB at hB
  have h1 := List.all_eq_true.1 hB _ hm
  obtain ⟨q, hq, h2⟩ := List.any_eq_true.1 h1
  simp only [Bool.and_eq_true] at h2
  obtain ⟨⟨h3, h4⟩, h5⟩ := h2
  obtain ⟨g', t, cs, fuel, p, e1, e2, e3, e4⟩ := laidVars_mem laid ps hv q hq
  rw [e1] at h3
  have hgg : g' = g := Nat.eq_of_beq_eq_true h3
  subst hgg
  rw [e2] at h4
  split at h5
  · rename_i vs hvs
    obtain ⟨rfl, hone⟩ := sameScalars_eq h5
    have hcs := trod_flat hT 20 fuel t h4 _ _ _ e4 hvs
    refine ⟨?_, RdAt.mk _ _ _ fun i d hi => ?_⟩
    · have := e3
      simp only [World.var?, e1, Option.bind_some] at this
      split at this
      · rename_i hh
        exact (Array.getElem?_eq_some_iff.1 hh).1
      · cases this
    · unfold gcells at hi
      rw [List.getElem?_map] at hi
      obtain ⟨u, hu, rfl⟩ := Option.map_eq_some_iff.1 hi
      refine ⟨u, ?_, hone u (List.mem_of_getElem? hu), by simp [Rd]⟩
      have hc := World.var?_cell e1 e3 i
      rw [← Array.getElem?_toList, hcs, hu] at hc
      have ea : (⟨g', 0, none⟩ : Addr).add (0 + i) = ⟨g', i, none⟩ := by
        unfold Addr.add
        by_cases h0 : i = 0
        · subst h0; simp
        · simp [h0]
      show W.cell? _ = _
      rw [ea]; exact hc
  · cases h5
theorem gok_nil {S : Nat → Prop} {w : World} (h : glob = []) : GOK S w := fun g xs hg => by rw [h] at hg; simp at hg
theorem targ_arr {T : Tbl} {t e : TypeId} {n a b : Nat} {z : List Value} {d : D} (h : T t = some ⟨.arr n e, a, b, z⟩) (hd : ∃ ti cs, T t = some ti ∧ TC T t cs ∧ d = (if ti.td.isAgg then .agg cs else cs.headD default)) :
    ∃ chunks : List (List D), d = .agg chunks.flatten ∧ chunks.length = n ∧ ∀ c ∈ chunks, TC T e c := by
  obtain ⟨ti, cs, h1, h2, h3⟩ := hd
  rw [h] at h1; injection h1 with h1; subst h1
  obtain ⟨chunks, rfl, hl, hc⟩ := h2.arr_inv h
  exact ⟨chunks, h3, hl, hc⟩
theorem ints_inv {T : Tbl} {e : TypeId} {k : IntKind} {a b : Nat} {z : List Value} (he : T e = some ⟨.int k, a, b, z⟩) : ∀ {chunks : List (List D)}, (∀ c ∈ chunks, TC T e c) → ∃ xs : List Int, chunks.flatten = xs.map (fun x => .v (.int k x)) ∧ xs.length = chunks.length ∧ ∀ x ∈ xs, (Lit.int k x).wf = true
  | [], _ => ⟨[], rfl, rfl, by simp⟩
  | c :: cs, h => by
    obtain ⟨xs, e1, e2, e3⟩ := ints_inv he (chunks := cs) fun c hc => h c (by simp [hc])
    obtain ⟨x, rfl, hw⟩ := (h c (by simp)).int_inv he
    exact ⟨x :: xs, by simp [e1], by simp [e2], by simpa using ⟨hw, e3⟩⟩
end Go.VD
end
