/- Layer 2: signs of differences of products; Versus. -/
import Derived.Test.YtdaeefbljdadfaaSi
namespace Go.Proofs.Ytdaeefbljdadfaa
open Go.VD
set_option linter.unusedVariables false
set_option linter.unusedSimpArgs false
set_option maxRecDepth 100000

theorem digits4 (V : Int) (h0 : 0 ≤ V) (h1 : V < 115792089237316195423570985008687907853269984665640564039457584007913129639936) : val4 (V % 18446744073709551616) (V / 18446744073709551616 % 18446744073709551616) (V / 340282366920938463463374607431768211456 % 18446744073709551616) (V / 6277101735386680763835789423207666416102355444464034512896 % 18446744073709551616) = V := by
  unfold val4; omega
theorem triple_val {a b c d : Int} (ha : 0 ≤ a ∧ a < 18446744073709551616) (hb : 0 ≤ b ∧ b < 18446744073709551616) (hc : 0 ≤ c ∧ c < 18446744073709551616) (hd : 0 ≤ d ∧ d < 18446744073709551616) (h : 3 * val4 a b c d < 115792089237316195423570985008687907853269984665640564039457584007913129639936) :
    val4 (a * 3 % 18446744073709551616) ((b * 3 + a * 3 / 18446744073709551616) % 18446744073709551616) ((c * 3 + (b * 3 + a * 3 / 18446744073709551616) / 18446744073709551616) % 18446744073709551616) ((d * 3 + (c * 3 + (b * 3 + a * 3 / 18446744073709551616) / 18446744073709551616) / 18446744073709551616) % 18446744073709551616) = 3 * val4 a b c d := by
  unfold val4 at *
  have x0 : a * 3 % 18446744073709551616 = a * 3 - 18446744073709551616 * (a * 3 / 18446744073709551616) := by omega
  rw [x0]
  have y0 : 0 ≤ a * 3 - 18446744073709551616 * (a * 3 / 18446744073709551616) ∧ a * 3 - 18446744073709551616 * (a * 3 / 18446744073709551616) < 18446744073709551616 := by omega
  clear x0
  generalize a * 3 / 18446744073709551616 = q0 at *
  have x1 : (b * 3 + q0) % 18446744073709551616 = b * 3 + q0 - 18446744073709551616 * ((b * 3 + q0) / 18446744073709551616) := by omega
  rw [x1]
  have y1 : 0 ≤ b * 3 + q0 - 18446744073709551616 * ((b * 3 + q0) / 18446744073709551616) ∧ b * 3 + q0 - 18446744073709551616 * ((b * 3 + q0) / 18446744073709551616) < 18446744073709551616 := by omega
  clear x1
  generalize (b * 3 + q0) / 18446744073709551616 = q1 at *
  have x2 : (c * 3 + q1) % 18446744073709551616 = c * 3 + q1 - 18446744073709551616 * ((c * 3 + q1) / 18446744073709551616) := by omega
  rw [x2]
  have y2 : 0 ≤ c * 3 + q1 - 18446744073709551616 * ((c * 3 + q1) / 18446744073709551616) ∧ c * 3 + q1 - 18446744073709551616 * ((c * 3 + q1) / 18446744073709551616) < 18446744073709551616 := by omega
  clear x2
  generalize (c * 3 + q1) / 18446744073709551616 = q2 at *
  have x3 : (d * 3 + q2) % 18446744073709551616 = d * 3 + q2 := Int.emod_eq_of_lt (by omega) (by omega)
  rw [x3]
  omega
theorem sq_bound128 {p : Int} (h : -170141183460469231731687303715884105728 ≤ p ∧ p < 170141183460469231731687303715884105728) : 0 ≤ p * p ∧ p * p ≤ 28948022309329048855892746252171976963317496166410141009864396001978282409984 := by
  constructor
  · by_cases h : p = 0
    · subst h; simp
    · exact Int.le_of_lt (sq_pos h)
  · have : p.natAbs * p.natAbs ≤ 170141183460469231731687303715884105728 * 170141183460469231731687303715884105728 := Nat.mul_le_mul (by omega) (by omega)
    have e : ((p.natAbs * p.natAbs : Nat) : Int) = p * p := by simp
    omega
theorem signOfW_pure (h l u v : Int) (hpre : ((0 ≤ h ∧ h < 18446744073709551616) ∧ 0 ≤ l ∧ l < 18446744073709551616) ∧ (0 ≤ u ∧ u < 18446744073709551616) ∧ 0 ≤ v ∧ v < 18446744073709551616) : PureJ Try.prog 44 [.agg [.v (.int .u64 h), .v (.int .u64 l)], .agg [.v (.int .u64 u), .v (.int .u64 v)]] (.v (.int .i64 (sg (sval h l) (sval u v)))) := by
  refine pureJ_of_vcx (call := (addPure 92 ent_wsquare (addPure 48 ent_triple (addPure 47 ent_greater (addPure 91 ent_wsign noCalls))))) (lp := fun _ => none) (N := 10) T_ok mixed (addPure_ok ent_wsquare_ok (addPure_ok ent_triple_ok (addPure_ok ent_greater_ok (addPure_ok ent_wsign_ok noCalls_ok)))) Try.func44 rfl (by decide) (by kernel_rfl) (by kernel_rfl) (LpAll.none _) (by first | trivial | (simp only [NamelessL, Nameless, and_self, and_true, true_and]; done) | (simp [NamelessL, Nameless, u32s_nameless, namelessL_ints]; done)) (by first | trivial | (simp only [NamelessL, Nameless, and_self, and_true, true_and]; done) | (simp [NamelessL, Nameless, u32s_nameless, namelessL_ints]; done)) ?_
  refine of_eq (B := (True ∧ (True ∧ (True ∧ (((2 : Nat) ≤ (2 : Nat)) ∧ (True ∧ (((((0 : Int) ≤ h) ∧ (h < (18446744073709551616 : Int))) ∧ (((0 : Int) ≤ l) ∧ (l < (18446744073709551616 : Int)))) ∧ (((2 : Nat) ≤ (2 : Nat)) ∧ (True ∧ (((((0 : Int) ≤ u) ∧ (u < (18446744073709551616 : Int))) ∧ (((0 : Int) ≤ v) ∧ (v < (18446744073709551616 : Int)))) ∧ ((((((0 : Int) ≤ (((sval u v) * (sval u v)) % (18446744073709551616 : Int))) ∧ ((((sval u v) * (sval u v)) % (18446744073709551616 : Int)) < (18446744073709551616 : Int))) ∧ (((0 : Int) ≤ ((((sval u v) * (sval u v)) / (18446744073709551616 : Int)) % (18446744073709551616 : Int))) ∧ (((((sval u v) * (sval u v)) / (18446744073709551616 : Int)) % (18446744073709551616 : Int)) < (18446744073709551616 : Int)))) ∧ ((((0 : Int) ≤ ((((sval u v) * (sval u v)) / (340282366920938463463374607431768211456 : Int)) % (18446744073709551616 : Int))) ∧ (((((sval u v) * (sval u v)) / (340282366920938463463374607431768211456 : Int)) % (18446744073709551616 : Int)) < (18446744073709551616 : Int))) ∧ (((0 : Int) ≤ ((((sval u v) * (sval u v)) / (6277101735386680763835789423207666416102355444464034512896 : Int)) % (18446744073709551616 : Int))) ∧ (((((sval u v) * (sval u v)) / (6277101735386680763835789423207666416102355444464034512896 : Int)) % (18446744073709551616 : Int)) < (18446744073709551616 : Int))))) ∧ ((((((0 : Int) ≤ (((sval h l) * (sval h l)) % (18446744073709551616 : Int))) ∧ ((((sval h l) * (sval h l)) % (18446744073709551616 : Int)) < (18446744073709551616 : Int))) ∧ ((((0 : Int) ≤ ((((sval h l) * (sval h l)) / (18446744073709551616 : Int)) % (18446744073709551616 : Int))) ∧ (((((sval h l) * (sval h l)) / (18446744073709551616 : Int)) % (18446744073709551616 : Int)) < (18446744073709551616 : Int))) ∧ ((((0 : Int) ≤ ((((sval h l) * (sval h l)) / (340282366920938463463374607431768211456 : Int)) % (18446744073709551616 : Int))) ∧ (((((sval h l) * (sval h l)) / (340282366920938463463374607431768211456 : Int)) % (18446744073709551616 : Int)) < (18446744073709551616 : Int))) ∧ (((0 : Int) ≤ ((((sval h l) * (sval h l)) / (6277101735386680763835789423207666416102355444464034512896 : Int)) % (18446744073709551616 : Int))) ∧ (((((sval h l) * (sval h l)) / (6277101735386680763835789423207666416102355444464034512896 : Int)) % (18446744073709551616 : Int)) < (18446744073709551616 : Int)))))) ∧ ((((0 : Int) ≤ (((((sval u v) * (sval u v)) % (18446744073709551616 : Int)) * (3 : Int)) % (18446744073709551616 : Int))) ∧ ((((((sval u v) * (sval u v)) % (18446744073709551616 : Int)) * (3 : Int)) % (18446744073709551616 : Int)) < (18446744073709551616 : Int))) ∧ ((((0 : Int) ≤ (((((((sval u v) * (sval u v)) / (18446744073709551616 : Int)) % (18446744073709551616 : Int)) * (3 : Int)) + (((((sval u v) * (sval u v)) % (18446744073709551616 : Int)) * (3 : Int)) / (18446744073709551616 : Int))) % (18446744073709551616 : Int))) ∧ ((((((((sval u v) * (sval u v)) / (18446744073709551616 : Int)) % (18446744073709551616 : Int)) * (3 : Int)) + (((((sval u v) * (sval u v)) % (18446744073709551616 : Int)) * (3 : Int)) / (18446744073709551616 : Int))) % (18446744073709551616 : Int)) < (18446744073709551616 : Int))) ∧ ((((0 : Int) ≤ (((((((sval u v) * (sval u v)) / (340282366920938463463374607431768211456 : Int)) % (18446744073709551616 : Int)) * (3 : Int)) + (((((((sval u v) * (sval u v)) / (18446744073709551616 : Int)) % (18446744073709551616 : Int)) * (3 : Int)) + (((((sval u v) * (sval u v)) % (18446744073709551616 : Int)) * (3 : Int)) / (18446744073709551616 : Int))) / (18446744073709551616 : Int))) % (18446744073709551616 : Int))) ∧ ((((((((sval u v) * (sval u v)) / (340282366920938463463374607431768211456 : Int)) % (18446744073709551616 : Int)) * (3 : Int)) + (((((((sval u v) * (sval u v)) / (18446744073709551616 : Int)) % (18446744073709551616 : Int)) * (3 : Int)) + (((((sval u v) * (sval u v)) % (18446744073709551616 : Int)) * (3 : Int)) / (18446744073709551616 : Int))) / (18446744073709551616 : Int))) % (18446744073709551616 : Int)) < (18446744073709551616 : Int))) ∧ (((0 : Int) ≤ (((((((sval u v) * (sval u v)) / (6277101735386680763835789423207666416102355444464034512896 : Int)) % (18446744073709551616 : Int)) * (3 : Int)) + (((((((sval u v) * (sval u v)) / (340282366920938463463374607431768211456 : Int)) % (18446744073709551616 : Int)) * (3 : Int)) + (((((((sval u v) * (sval u v)) / (18446744073709551616 : Int)) % (18446744073709551616 : Int)) * (3 : Int)) + (((((sval u v) * (sval u v)) % (18446744073709551616 : Int)) * (3 : Int)) / (18446744073709551616 : Int))) / (18446744073709551616 : Int))) / (18446744073709551616 : Int))) % (18446744073709551616 : Int))) ∧ ((((((((sval u v) * (sval u v)) / (6277101735386680763835789423207666416102355444464034512896 : Int)) % (18446744073709551616 : Int)) * (3 : Int)) + (((((((sval u v) * (sval u v)) / (340282366920938463463374607431768211456 : Int)) % (18446744073709551616 : Int)) * (3 : Int)) + (((((((sval u v) * (sval u v)) / (18446744073709551616 : Int)) % (18446744073709551616 : Int)) * (3 : Int)) + (((((sval u v) * (sval u v)) % (18446744073709551616 : Int)) * (3 : Int)) / (18446744073709551616 : Int))) / (18446744073709551616 : Int))) / (18446744073709551616 : Int))) % (18446744073709551616 : Int)) < (18446744073709551616 : Int))))))) ∧ ((Bool.true = Bool.true) ∧ (pcond (Decidable.decide ((val4 (((((sval u v) * (sval u v)) % (18446744073709551616 : Int)) * (3 : Int)) % (18446744073709551616 : Int)) (((((((sval u v) * (sval u v)) / (18446744073709551616 : Int)) % (18446744073709551616 : Int)) * (3 : Int)) + (((((sval u v) * (sval u v)) % (18446744073709551616 : Int)) * (3 : Int)) / (18446744073709551616 : Int))) % (18446744073709551616 : Int)) (((((((sval u v) * (sval u v)) / (340282366920938463463374607431768211456 : Int)) % (18446744073709551616 : Int)) * (3 : Int)) + (((((((sval u v) * (sval u v)) / (18446744073709551616 : Int)) % (18446744073709551616 : Int)) * (3 : Int)) + (((((sval u v) * (sval u v)) % (18446744073709551616 : Int)) * (3 : Int)) / (18446744073709551616 : Int))) / (18446744073709551616 : Int))) % (18446744073709551616 : Int)) (((((((sval u v) * (sval u v)) / (6277101735386680763835789423207666416102355444464034512896 : Int)) % (18446744073709551616 : Int)) * (3 : Int)) + (((((((sval u v) * (sval u v)) / (340282366920938463463374607431768211456 : Int)) % (18446744073709551616 : Int)) * (3 : Int)) + (((((((sval u v) * (sval u v)) / (18446744073709551616 : Int)) % (18446744073709551616 : Int)) * (3 : Int)) + (((((sval u v) * (sval u v)) % (18446744073709551616 : Int)) * (3 : Int)) / (18446744073709551616 : Int))) / (18446744073709551616 : Int))) / (18446744073709551616 : Int))) % (18446744073709551616 : Int))) < (val4 (((sval h l) * (sval h l)) % (18446744073709551616 : Int)) ((((sval h l) * (sval h l)) / (18446744073709551616 : Int)) % (18446744073709551616 : Int)) ((((sval h l) * (sval h l)) / (340282366920938463463374607431768211456 : Int)) % (18446744073709551616 : Int)) ((((sval h l) * (sval h l)) / (6277101735386680763835789423207666416102355444464034512896 : Int)) % (18446744073709551616 : Int))))) (((2 : Nat) ≤ (2 : Nat)) ∧ (True ∧ (((((0 : Int) ≤ h) ∧ (h < (18446744073709551616 : Int))) ∧ (((0 : Int) ≤ l) ∧ (l < (18446744073709551616 : Int)))) ∧ (True ∧ (True ∧ (True ∧ ((D.v (Value.int IntKind.i64 (Int.sign (sval h l)))) = (D.v (Value.int IntKind.i64 (sg (sval h l) (sval u v))))))))))) (((2 : Nat) ≤ (2 : Nat)) ∧ (True ∧ (((((0 : Int) ≤ u) ∧ (u < (18446744073709551616 : Int))) ∧ (((0 : Int) ≤ v) ∧ (v < (18446744073709551616 : Int)))) ∧ (True ∧ (True ∧ (True ∧ ((D.v (Value.int IntKind.i64 (Int.sign (sval u v)))) = (D.v (Value.int IntKind.i64 (sg (sval h l) (sval u v))))))))))))))))))))))))) (by kernel_rfl) ?_
  obtain ⟨hb, ub⟩ := hpre
  have bp := sq_bound128 (sval_bounds hb)
  have bq := sq_bound128 (sval_bounds ub)
  simp only [true_and, and_true, and_self, IsInt_lit, IsBool_lit, IsStr_lit, Bool.not_eq_true', Bool.not_eq_false', Bool.not_true, Bool.not_false, Int.reduceLE, Int.reduceLT, Int.reduceNeg, Nat.le_refl, Int.le_refl, Nat.reduceLT, Nat.reduceLeDiff, Nat.reduceEqDiff, D.v.injEq, D.tup.injEq, D.agg.injEq, D.ro.injEq, List.cons.injEq, Value.int.injEq, Value.bool.injEq, pcond_true, pcond_false, NamelessL, Nameless, Nat.reduceMul, Nat.reduceAdd, Nat.zero_add, Int.toNat_natCast]
  generalize sval h l = p at *
  generalize sval u v = q at *
  have key : ∀ b, b = decide (3 * (q * q) < p * p) → pcond b (p.sign = sg p q) (q.sign = sg p q) := by
    intro b hb
    subst hb
    refine pcond_intro (fun h => ?_) (fun h => ?_) <;> simp [sg, h]
  generalize sg p q = r at *
  generalize p.sign = ps at *
  generalize q.sign = qs at *
  generalize q * q = Q at *
  generalize p * p = P at *
  have dP := digits4 P (by omega) (by omega)
  have dQ := digits4 Q (by omega) (by omega)
  have t := triple_val (a := Q % 18446744073709551616) (b := Q / 18446744073709551616 % 18446744073709551616) (c := Q / 340282366920938463463374607431768211456 % 18446744073709551616) (d := Q / 6277101735386680763835789423207666416102355444464034512896 % 18446744073709551616) (by omega) (by omega) (by omega) (by omega) (by rw [dQ]; omega)
  rw [dQ] at t
  refine ⟨hb, ub, ⟨⟨by omega, by omega⟩, by omega, by omega⟩, ⟨⟨by omega, by omega, by omega, by omega⟩, by omega, by omega, by omega, by omega⟩, ?_⟩
  rw [dP, t]
  have := cond_prop (key _ rfl)
  exact pcond_intro (fun e => ⟨hb, this.1 e⟩) (fun e => ⟨ub, this.2 e⟩)
def ent_signOfW : Ent := fun ds => match ds with
  | [.agg [.v (.int .u64 h), .v (.int .u64 l)], .agg [.v (.int .u64 u), .v (.int .u64 v)]] => some (.v (.int .i64 (sg (sval h l) (sval u v))), ((0 ≤ h ∧ h < 18446744073709551616) ∧ 0 ≤ l ∧ l < 18446744073709551616) ∧ (0 ≤ u ∧ u < 18446744073709551616) ∧ 0 ≤ v ∧ v < 18446744073709551616)
  | _ => none
theorem ent_signOfW_ok : EntOk Try.prog 44 ent_signOfW := by
  intro ds d c h hc; unfold ent_signOfW at h; split at h
  · obtain ⟨rfl, rfl⟩ := pair_inj h; exact signOfW_pure _ _ _ _ hc
  · cases h
def verS (a b j c d k : Int) : Int × Int := bif (within a b 1152921504606846976 && within c d 1152921504606846976) && (wI 1073741824 j && wI 1073741824 k) then (sg (j * a - k * c) (j * b - k * d), 0) else (0, 1)
theorem versus_pure (a b j c d k : Int) : PureJ Try.prog 27 [.agg [.v (.int .i64 a), .v (.int .i64 b)], .v (.int .i64 j), .agg [.v (.int .i64 c), .v (.int .i64 d)], .v (.int .i64 k)] (d_two (verS a b j c d k)) := by
  refine pureJ_of_vcx (call := (addPure 35 ent_within2 (addPure 42 ent_product (addPure 43 ent_wminus (addPure 44 ent_signOfW noCalls))))) (lp := fun _ => none) (N := 10) T_ok mixed (addPure_ok ent_within2_ok (addPure_ok ent_product_ok (addPure_ok ent_wminus_ok (addPure_ok ent_signOfW_ok noCalls_ok)))) Try.func27 rfl (by decide) (by kernel_rfl) (by kernel_rfl) (LpAll.none _) (by first | trivial | (simp only [NamelessL, Nameless, and_self, and_true, true_and]; done) | (simp [NamelessL, Nameless, u32s_nameless, namelessL_ints]; done)) (by first | trivial | (simp only [NamelessL, Nameless, and_self, and_true, true_and]; done) | (simp [NamelessL, Nameless, u32s_nameless, namelessL_ints]; done)) ?_
  refine of_eq (B := (True ∧ (True ∧ (True ∧ (True ∧ (((2 : Nat) ≤ (2 : Nat)) ∧ (((2 : Nat) ≤ (2 : Nat)) ∧ ((((4 : Nat) ≤ (16777216 : Nat)) ∧ ((2 : Nat) ≤ (9223372036854775807 : Nat))) ∧ (((True ∧ (((NamelessL [(D.v (Value.int IntKind.i64 a)), (D.v (Value.int IntKind.i64 b)), (D.v (Value.int IntKind.i64 c)), (D.v (Value.int IntKind.i64 d))]) ∧ (((0 : Nat) < (2 : Nat)) ∧ ((4 : Nat) ≤ (4 : Nat)))) ∧ True)) ∧ (((0 : Int) ≤ (1152921504606846976 : Int)) ∧ ((1152921504606846976 : Int) < (9223372036854775808 : Int)))) ∧ (True ∧ (True ∧ (pcond (!((within a b (1152921504606846976 : Int)) && (within c d (1152921504606846976 : Int)))) (True ∧ (True ∧ (True ∧ (True ∧ (True ∧ (True ∧ ((True ∧ (True ∧ True)) ∧ ((D.tup [(D.v (Value.int IntKind.i64 (0 : Int))), (D.v (Value.int IntKind.i64 (1 : Int)))]) = (D.tup [(D.v (Value.int IntKind.i64 (Prod.fst (verS a b j c d k)))), (D.v (Value.int IntKind.i64 (Prod.snd (verS a b j c d k))))]))))))))) (True ∧ (True ∧ (True ∧ (True ∧ (True ∧ (True ∧ (pcond (Decidable.decide ((1073741824 : Int) < (Max.max j k))) (True ∧ (True ∧ (True ∧ (True ∧ ((True ∧ (True ∧ True)) ∧ ((D.tup [(D.v (Value.int IntKind.i64 (0 : Int))), (D.v (Value.int IntKind.i64 (1 : Int)))]) = (D.tup [(D.v (Value.int IntKind.i64 (Prod.fst (verS a b j c d k)))), (D.v (Value.int IntKind.i64 (Prod.snd (verS a b j c d k))))]))))))) (True ∧ (True ∧ (True ∧ (True ∧ (True ∧ (pcond (Decidable.decide ((Min.min j k) < (-(1073741824 : Int)))) (True ∧ (True ∧ (True ∧ ((True ∧ (True ∧ True)) ∧ ((D.tup [(D.v (Value.int IntKind.i64 (0 : Int))), (D.v (Value.int IntKind.i64 (1 : Int)))]) = (D.tup [(D.v (Value.int IntKind.i64 (Prod.fst (verS a b j c d k)))), (D.v (Value.int IntKind.i64 (Prod.snd (verS a b j c d k))))])))))) (True ∧ (True ∧ ((((0 : Nat) < (2 : Nat)) ∧ (IsInt IntKind.i64 (D.v (Value.int IntKind.i64 a)))) ∧ (((((-(9223372036854775808 : Int)) ≤ j) ∧ (j < (9223372036854775808 : Int))) ∧ (((-(9223372036854775808 : Int)) ≤ a) ∧ (a < (9223372036854775808 : Int)))) ∧ (True ∧ (True ∧ ((((0 : Nat) < (2 : Nat)) ∧ (IsInt IntKind.i64 (D.v (Value.int IntKind.i64 c)))) ∧ (((((-(9223372036854775808 : Int)) ≤ k) ∧ (k < (9223372036854775808 : Int))) ∧ (((-(9223372036854775808 : Int)) ≤ c) ∧ (c < (9223372036854775808 : Int)))) ∧ ((((((0 : Int) ≤ (hiW (j * a))) ∧ ((hiW (j * a)) < (18446744073709551616 : Int))) ∧ (((0 : Int) ≤ (loW (j * a))) ∧ ((loW (j * a)) < (18446744073709551616 : Int)))) ∧ ((((0 : Int) ≤ (hiW (k * c))) ∧ ((hiW (k * c)) < (18446744073709551616 : Int))) ∧ (((0 : Int) ≤ (loW (k * c))) ∧ ((loW (k * c)) < (18446744073709551616 : Int))))) ∧ (True ∧ ((((2 : Nat) = (2 : Nat)) ∧ ((2 : Nat) ≤ (2 : Nat))) ∧ ((Bool.true = Bool.true) ∧ (True ∧ (True ∧ ((((1 : Nat) < (2 : Nat)) ∧ (IsInt IntKind.i64 (D.v (Value.int IntKind.i64 b)))) ∧ (((((-(9223372036854775808 : Int)) ≤ j) ∧ (j < (9223372036854775808 : Int))) ∧ (((-(9223372036854775808 : Int)) ≤ b) ∧ (b < (9223372036854775808 : Int)))) ∧ (True ∧ (True ∧ ((((1 : Nat) < (2 : Nat)) ∧ (IsInt IntKind.i64 (D.v (Value.int IntKind.i64 d)))) ∧ (((((-(9223372036854775808 : Int)) ≤ k) ∧ (k < (9223372036854775808 : Int))) ∧ (((-(9223372036854775808 : Int)) ≤ d) ∧ (d < (9223372036854775808 : Int)))) ∧ ((((((0 : Int) ≤ (hiW (j * b))) ∧ ((hiW (j * b)) < (18446744073709551616 : Int))) ∧ (((0 : Int) ≤ (loW (j * b))) ∧ ((loW (j * b)) < (18446744073709551616 : Int)))) ∧ ((((0 : Int) ≤ (hiW (k * d))) ∧ ((hiW (k * d)) < (18446744073709551616 : Int))) ∧ (((0 : Int) ≤ (loW (k * d))) ∧ ((loW (k * d)) < (18446744073709551616 : Int))))) ∧ (True ∧ ((((2 : Nat) = (2 : Nat)) ∧ ((2 : Nat) ≤ (2 : Nat))) ∧ ((Bool.true = Bool.true) ∧ (((2 : Nat) ≤ (2 : Nat)) ∧ (((2 : Nat) ≤ (2 : Nat)) ∧ ((((((0 : Int) ≤ ((((hiW (j * a)) - (hiW (k * c))) - (cond (Decidable.decide ((loW (j * a)) < (loW (k * c)))) (1 : Int) (0 : Int))) % (18446744073709551616 : Int))) ∧ (((((hiW (j * a)) - (hiW (k * c))) - (cond (Decidable.decide ((loW (j * a)) < (loW (k * c)))) (1 : Int) (0 : Int))) % (18446744073709551616 : Int)) < (18446744073709551616 : Int))) ∧ (((0 : Int) ≤ (((loW (j * a)) - (loW (k * c))) % (18446744073709551616 : Int))) ∧ ((((loW (j * a)) - (loW (k * c))) % (18446744073709551616 : Int)) < (18446744073709551616 : Int)))) ∧ ((((0 : Int) ≤ ((((hiW (j * b)) - (hiW (k * d))) - (cond (Decidable.decide ((loW (j * b)) < (loW (k * d)))) (1 : Int) (0 : Int))) % (18446744073709551616 : Int))) ∧ (((((hiW (j * b)) - (hiW (k * d))) - (cond (Decidable.decide ((loW (j * b)) < (loW (k * d)))) (1 : Int) (0 : Int))) % (18446744073709551616 : Int)) < (18446744073709551616 : Int))) ∧ (((0 : Int) ≤ (((loW (j * b)) - (loW (k * d))) % (18446744073709551616 : Int))) ∧ ((((loW (j * b)) - (loW (k * d))) % (18446744073709551616 : Int)) < (18446744073709551616 : Int))))) ∧ (True ∧ (True ∧ (True ∧ ((True ∧ (True ∧ True)) ∧ ((D.tup [(D.v (Value.int IntKind.i64 (sg (sval ((((hiW (j * a)) - (hiW (k * c))) - (cond (Decidable.decide ((loW (j * a)) < (loW (k * c)))) (1 : Int) (0 : Int))) % (18446744073709551616 : Int)) (((loW (j * a)) - (loW (k * c))) % (18446744073709551616 : Int))) (sval ((((hiW (j * b)) - (hiW (k * d))) - (cond (Decidable.decide ((loW (j * b)) < (loW (k * d)))) (1 : Int) (0 : Int))) % (18446744073709551616 : Int)) (((loW (j * b)) - (loW (k * d))) % (18446744073709551616 : Int)))))), (D.v (Value.int IntKind.i64 (0 : Int)))]) = (D.tup [(D.v (Value.int IntKind.i64 (Prod.fst (verS a b j c d k)))), (D.v (Value.int IntKind.i64 (Prod.snd (verS a b j c d k))))])))))))))))))))))))))))))))))))))))))))))))))))))))))))))) (by kernel_rfl) ?_
  simp only [true_and, and_true, and_self, IsInt_lit, IsBool_lit, IsStr_lit, Bool.not_eq_true', Bool.not_eq_false', Bool.not_true, Bool.not_false, Int.reduceLE, Int.reduceLT, Int.reduceNeg, Nat.le_refl, Int.le_refl, Nat.reduceLT, Nat.reduceLeDiff, Nat.reduceEqDiff, D.v.injEq, D.tup.injEq, D.agg.injEq, D.ro.injEq, List.cons.injEq, Value.int.injEq, Value.bool.injEq, pcond_true, pcond_false, NamelessL, Nameless, Nat.reduceMul, Nat.reduceAdd, Nat.zero_add, Int.toNat_natCast]
  have hwj : (wI 1073741824 j && wI 1073741824 k) = (!decide (1073741824 < max j k) && !decide (min j k < -1073741824)) := by
    rw [Bool.eq_iff_iff]; simp [wI]; omega
  refine pcond_intro (fun h => ?_) (fun h => pcond_intro (fun h2 => ?_) (fun h2 => pcond_intro (fun h3 => ?_) (fun h3 => ?_)))
  · simp only [Bool.not_eq_true'] at h; simp [verS, h]
  · simp [verS, hwj, h2]
  · simp [verS, hwj, h3]
  · have hv : verS a b j c d k = (sg (j * a - k * c) (j * b - k * d), 0) := by
      simp only [Bool.not_eq_false'] at h
      simp only [verS, h, hwj, h2, h3]; rfl
    simp only [Bool.not_eq_false', Bool.and_eq_true] at h
    have h4 := within_iff.1 h.1
    have h5 := within_iff.1 h.2
    simp only [decide_eq_false_iff_not] at h2 h3
    rw [hv]
    clear hv hwj h
    have hj : -1073741824 ≤ j ∧ j ≤ 1073741824 := by omega
    have hk : -1073741824 ≤ k ∧ k ≤ 1073741824 := by omega
    have mb : ∀ x y : Int, (-1073741824 ≤ x ∧ x ≤ 1073741824) → (-1152921504606846976 ≤ y ∧ y ≤ 1152921504606846976) → -1237940039285380274899124224 ≤ x * y ∧ x * y ≤ 1237940039285380274899124224 := by
      intro x y hx hy
      have : (x * y).natAbs ≤ 1073741824 * 1152921504606846976 := by rw [Int.natAbs_mul]; exact Nat.mul_le_mul (by omega) (by omega)
      omega
    have m1 := mb j a hj h4.1
    have m2 := mb k c hk h5.1
    have m3 := mb j b hj h4.2
    have m4 := mb k d hk h5.2
    rw [(minusW (j * a) (k * c)).1, (minusW (j * a) (k * c)).2, (minusW (j * b) (k * d)).1, (minusW (j * b) (k * d)).2, sval_W (by omega), sval_W (by omega)]
    exact ⟨⟨by omega, by omega⟩, ⟨by omega, by omega⟩, ⟨W_bounds _, W_bounds _⟩, ⟨by omega, by omega⟩, ⟨by omega, by omega⟩, ⟨W_bounds _, W_bounds _⟩, ⟨W_bounds _, W_bounds _⟩, rfl, rfl⟩
def ent_versus : Ent := fun ds => match ds with
  | [.agg [.v (.int .i64 a), .v (.int .i64 b)], .v (.int .i64 j), .agg [.v (.int .i64 c), .v (.int .i64 d)], .v (.int .i64 k)] => some (d_two (verS a b j c d k), True)
  | _ => none
theorem ent_versus_ok : EntOk Try.prog 27 ent_versus := by
  intro ds d c h hc; unfold ent_versus at h; split at h
  · obtain ⟨rfl, rfl⟩ := pair_inj h; exact versus_pure _ _ _ _ _ _
  · cases h
theorem lwithin_pure (n m : Int) (hpre : 0 < m ∧ m ≤ 4611686018427387904) : PureJ Try.prog 30 [.v (.int .i64 n), .v (.int .i64 m)] (.v (.int .i64 (n % m))) := by
  refine pureJ_of_vcx (call := noCalls) (lp := fun _ => none) (N := 10) T_ok mixed noCalls_ok Try.func30 rfl (by decide) (by kernel_rfl) (by kernel_rfl) (LpAll.none _) (by first | trivial | (simp only [NamelessL, Nameless, and_self, and_true, true_and]; done) | (simp [NamelessL, Nameless, u32s_nameless, namelessL_ints]; done)) (by first | trivial | (simp only [NamelessL, Nameless, and_self, and_true, true_and]; done) | (simp [NamelessL, Nameless, u32s_nameless, namelessL_ints]; done)) ?_
  refine of_eq (B := (True ∧ (True ∧ (True ∧ ((m ≠ (0 : Int)) ∧ (True ∧ (True ∧ (True ∧ (pcond (Decidable.decide ((Int.tmod n m) < (0 : Int))) (True ∧ (True ∧ (True ∧ (True ∧ (True ∧ (True ∧ (True ∧ (True ∧ ((D.v (Value.int IntKind.i64 (IntKind.wrap IntKind.i64 ((Int.tmod n m) + m)))) = (D.v (Value.int IntKind.i64 (n % m)))))))))))) (True ∧ (True ∧ (True ∧ (True ∧ ((D.v (Value.int IntKind.i64 (Int.tmod n m))) = (D.v (Value.int IntKind.i64 (n % m))))))))))))))))) (by kernel_rfl) ?_
  simp only [true_and, and_true, and_self, IsInt_lit, IsBool_lit, IsStr_lit, Bool.not_eq_true', Bool.not_eq_false', Bool.not_true, Bool.not_false, Int.reduceLE, Int.reduceLT, Int.reduceNeg, Nat.le_refl, Int.le_refl, Nat.reduceLT, Nat.reduceLeDiff, Nat.reduceEqDiff, D.v.injEq, D.tup.injEq, D.agg.injEq, D.ro.injEq, List.cons.injEq, Value.int.injEq, Value.bool.injEq, pcond_true, pcond_false, NamelessL, Nameless, Nat.reduceMul, Nat.reduceAdd, Nat.zero_add, Int.toNat_natCast]
  have hb := tmod_bound n (k := m) hpre.1
  have e : n % m = n.tmod m % m := by
    have h := Int.mul_tdiv_add_tmod n m
    have h2 : n % m = (n.tmod m + m * n.tdiv m) % m := by rw [Int.add_comm, h]
    rw [h2, Int.add_mul_emod_self_left]
  refine ⟨by omega, pcond_intro (fun h => ?_) (fun h => ?_)⟩
  · simp only [decide_eq_true_eq] at h
    rw [wrap_i64_of (by omega) (by omega), e, ← Int.add_emod_right, Int.emod_eq_of_lt (by omega) (by omega)]
  · simp only [decide_eq_false_iff_not] at h
    rw [e, Int.emod_eq_of_lt (by omega) (by omega)]
def ent_lwithin : Ent := fun ds => match ds with
  | [.v (.int .i64 n), .v (.int .i64 m)] => some (.v (.int .i64 (n % m)), 0 < m ∧ m ≤ 4611686018427387904)
  | _ => none
theorem ent_lwithin_ok : EntOk Try.prog 30 ent_lwithin := by
  intro ds d c h hc; unfold ent_lwithin at h; split at h
  · obtain ⟨rfl, rfl⟩ := pair_inj h; exact lwithin_pure _ _ hc
  · cases h
theorem verS_in {a b j c d k : Int} (h : ((-2097152 ≤ a ∧ a ≤ 2097152) ∧ -2097152 ≤ b ∧ b ≤ 2097152) ∧ (-2097152 ≤ c ∧ c ≤ 2097152) ∧ -2097152 ≤ d ∧ d ≤ 2097152) (hj : -1073741824 ≤ j ∧ j ≤ 1073741824) (hk : -1073741824 ≤ k ∧ k ≤ 1073741824) : verS a b j c d k = (sg (j * a - k * c) (j * b - k * d), 0) := by
  have h1 : within a b 1152921504606846976 = true := within_iff.2 (by omega)
  have h2 : within c d 1152921504606846976 = true := within_iff.2 (by omega)
  have h3 : wI 1073741824 j = true := by simp [wI]; omega
  have h4 : wI 1073741824 k = true := by simp [wI]; omega
  simp [verS, h1, h2, h3, h4]
theorem lawVersus_pure (a b c d k : Int) : PureJ Try.prog 9 [.agg [.v (.int .i64 a), .v (.int .i64 b)], .agg [.v (.int .i64 c), .v (.int .i64 d)], .v (.int .i64 k)] (.v (.bool true)) := by
  refine pureJ_of_vcx (call := (addPure 10 ent_known (addPure 29 ent_small (addPure 25 ent_compare (addPure 27 ent_versus (addPure 30 ent_lwithin noCalls)))))) (lp := fun _ => none) (N := 10) T_ok mixed (addPure_ok ent_known_ok (addPure_ok ent_small_ok (addPure_ok ent_compare_ok (addPure_ok ent_versus_ok (addPure_ok ent_lwithin_ok noCalls_ok))))) Try.func9 rfl (by decide) (by kernel_rfl) (by kernel_rfl) (LpAll.none _) (by first | trivial | (simp only [NamelessL, Nameless, and_self, and_true, true_and]; done) | (simp [NamelessL, Nameless, u32s_nameless, namelessL_ints]; done)) (by first | trivial | (simp only [NamelessL, Nameless, and_self, and_true, true_and]; done) | (simp [NamelessL, Nameless, u32s_nameless, namelessL_ints]; done)) ?_
  refine of_eq (B := (True ∧ (True ∧ (True ∧ (True ∧ (True ∧ (((2 : Nat) ≤ (2 : Nat)) ∧ (True ∧ (((2 : Nat) ≤ (2 : Nat)) ∧ (True ∧ ((((2 : Nat) = (2 : Nat)) ∧ ((2 : Nat) ≤ (2 : Nat))) ∧ ((((2 : Nat) = (2 : Nat)) ∧ ((2 : Nat) ≤ (2 : Nat))) ∧ ((Bool.true = Bool.true) ∧ (True ∧ ((((0 : Int) < (1073741824 : Int)) ∧ ((1073741824 : Int) ≤ (4611686018427387904 : Int))) ∧ (True ∧ (True ∧ (((2 : Nat) ≤ (2 : Nat)) ∧ (((2 : Nat) ≤ (2 : Nat)) ∧ (True ∧ (True ∧ (True ∧ (True ∧ (True ∧ (True ∧ (((2 : Nat) ≤ (2 : Nat)) ∧ (((2 : Nat) ≤ (2 : Nat)) ∧ (True ∧ (True ∧ (True ∧ (True ∧ (True ∧ (True ∧ (((2 : Nat) ≤ (2 : Nat)) ∧ (True ∧ (((2 : Nat) ≤ (2 : Nat)) ∧ (True ∧ (True ∧ (True ∧ (True ∧ (True ∧ (True ∧ (True ∧ (((2 : Nat) ≤ (2 : Nat)) ∧ (True ∧ (((2 : Nat) ≤ (2 : Nat)) ∧ (True ∧ (True ∧ (True ∧ (True ∧ (True ∧ (True ∧ (True ∧ (True ∧ (True ∧ (True ∧ (pcond ((Prod.snd (cmpS (Int.tmod a (1048576 : Int)) (Int.tmod b (1048576 : Int)) (Int.tmod c (1048576 : Int)) (Int.tmod d (1048576 : Int)))) == (0 : Int)) (True ∧ (True ∧ (True ∧ (True ∧ (pcond ((Prod.snd (verS (Int.tmod a (1048576 : Int)) (Int.tmod b (1048576 : Int)) (1 : Int) (Int.tmod c (1048576 : Int)) (Int.tmod d (1048576 : Int)) (1 : Int))) == (0 : Int)) (True ∧ (True ∧ (True ∧ (True ∧ (pcond ((Prod.snd (verS (Int.tmod a (1048576 : Int)) (Int.tmod b (1048576 : Int)) (IntKind.wrap IntKind.i64 ((1 : Int) + (k % (1073741824 : Int)))) (Int.tmod c (1048576 : Int)) (Int.tmod d (1048576 : Int)) (IntKind.wrap IntKind.i64 ((1 : Int) + (k % (1073741824 : Int)))))) == (0 : Int)) (True ∧ (True ∧ (True ∧ (True ∧ (pcond ((Prod.snd (verS (Int.tmod c (1048576 : Int)) (Int.tmod d (1048576 : Int)) (IntKind.wrap IntKind.i64 ((1 : Int) + (k % (1073741824 : Int)))) (Int.tmod a (1048576 : Int)) (Int.tmod b (1048576 : Int)) (IntKind.wrap IntKind.i64 ((1 : Int) + (k % (1073741824 : Int)))))) == (0 : Int)) (True ∧ (True ∧ (True ∧ (True ∧ (True ∧ (pcond ((Prod.fst (cmpS (Int.tmod a (1048576 : Int)) (Int.tmod b (1048576 : Int)) (Int.tmod c (1048576 : Int)) (Int.tmod d (1048576 : Int)))) == (Prod.fst (verS (Int.tmod a (1048576 : Int)) (Int.tmod b (1048576 : Int)) (1 : Int) (Int.tmod c (1048576 : Int)) (Int.tmod d (1048576 : Int)) (1 : Int)))) (True ∧ (True ∧ (True ∧ (True ∧ (True ∧ (pcond ((Prod.fst (cmpS (Int.tmod a (1048576 : Int)) (Int.tmod b (1048576 : Int)) (Int.tmod c (1048576 : Int)) (Int.tmod d (1048576 : Int)))) == (Prod.fst (verS (Int.tmod a (1048576 : Int)) (Int.tmod b (1048576 : Int)) (IntKind.wrap IntKind.i64 ((1 : Int) + (k % (1073741824 : Int)))) (Int.tmod c (1048576 : Int)) (Int.tmod d (1048576 : Int)) (IntKind.wrap IntKind.i64 ((1 : Int) + (k % (1073741824 : Int))))))) (True ∧ (True ∧ (True ∧ (True ∧ (True ∧ (True ∧ (True ∧ (True ∧ ((D.v (Value.bool ((Prod.fst (cmpS (Int.tmod a (1048576 : Int)) (Int.tmod b (1048576 : Int)) (Int.tmod c (1048576 : Int)) (Int.tmod d (1048576 : Int)))) == (IntKind.wrap IntKind.i64 ((0 : Int) - (Prod.fst (verS (Int.tmod c (1048576 : Int)) (Int.tmod d (1048576 : Int)) (IntKind.wrap IntKind.i64 ((1 : Int) + (k % (1073741824 : Int)))) (Int.tmod a (1048576 : Int)) (Int.tmod b (1048576 : Int)) (IntKind.wrap IntKind.i64 ((1 : Int) + (k % (1073741824 : Int))))))))))) = (D.v (Value.bool Bool.true))))))))))) (True ∧ (True ∧ (True ∧ (True ∧ ((D.v (Value.bool Bool.false)) = (D.v (Value.bool Bool.true))))))))))))) (True ∧ (True ∧ (True ∧ (True ∧ (True ∧ (True ∧ ((D.v (Value.bool Bool.false)) = (D.v (Value.bool Bool.true))))))))))))))) (True ∧ (True ∧ (True ∧ (True ∧ (True ∧ (True ∧ (True ∧ (True ∧ ((D.v (Value.bool Bool.false)) = (D.v (Value.bool Bool.true)))))))))))))))) (True ∧ (True ∧ (True ∧ (True ∧ (True ∧ (True ∧ (True ∧ (True ∧ (True ∧ (True ∧ ((D.v (Value.bool Bool.false)) = (D.v (Value.bool Bool.true)))))))))))))))))) (True ∧ (True ∧ (True ∧ (True ∧ (True ∧ (True ∧ (True ∧ (True ∧ (True ∧ (True ∧ (True ∧ (True ∧ ((D.v (Value.bool Bool.false)) = (D.v (Value.bool Bool.true)))))))))))))))))))) (True ∧ (True ∧ (True ∧ (True ∧ (True ∧ (True ∧ (True ∧ (True ∧ (True ∧ (True ∧ (True ∧ (True ∧ (True ∧ (True ∧ ((D.v (Value.bool Bool.false)) = (D.v (Value.bool Bool.true)))))))))))))))))))))))))))))))))))))))))))))))))))))))))))))))))))))))))) (by kernel_rfl) ?_
  simp only [true_and, and_true, and_self, IsInt_lit, IsBool_lit, IsStr_lit, Bool.not_eq_true', Bool.not_eq_false', Bool.not_true, Bool.not_false, Int.reduceLE, Int.reduceLT, Int.reduceNeg, Nat.le_refl, Int.le_refl, Nat.reduceLT, Nat.reduceLeDiff, Nat.reduceEqDiff, D.v.injEq, D.tup.injEq, D.agg.injEq, D.ro.injEq, List.cons.injEq, Value.int.injEq, Value.bool.injEq, pcond_true, pcond_false, NamelessL, Nameless, Nat.reduceMul, Nat.reduceAdd, Nat.zero_add, Int.toNat_natCast]
  have ha := tmod_bound a (k := 1048576) (by decide)
  have hb := tmod_bound b (k := 1048576) (by decide)
  have hc := tmod_bound c (k := 1048576) (by decide)
  have hd := tmod_bound d (k := 1048576) (by decide)
  generalize a.tmod 1048576 = a at *
  generalize b.tmod 1048576 = b at *
  generalize c.tmod 1048576 = c at *
  generalize d.tmod 1048576 = d at *
  have hk : 1 ≤ IntKind.wrap IntKind.i64 (1 + k % 1073741824) ∧ IntKind.wrap IntKind.i64 (1 + k % 1073741824) ≤ 1073741824 := by
    rw [wrap_i64_of (by omega) (by omega)]; omega
  generalize IntKind.wrap IntKind.i64 (1 + k % 1073741824) = k at *
  rw [cmpS_in (by omega), verS_in (by omega) (by omega) (by omega), verS_in (by omega) (by omega) (by omega), verS_in (by omega) (by omega) (by omega)]
  dsimp only
  have e1 : sg (k * a - k * c) (k * b - k * d) = sg (a - c) (b - d) := by
    rw [← Int.mul_sub, ← Int.mul_sub]; exact sg_scale _ _ (by omega)
  have e2 : sg (k * c - k * a) (k * d - k * b) = -sg (a - c) (b - d) := by
    rw [← Int.mul_sub, ← Int.mul_sub, sg_scale _ _ (by omega), ← sg_neg]; congr 1 <;> omega
  have hs := sg_bound (a - c) (b - d)
  have hw : IntKind.wrap IntKind.i64 (0 - -sg (a - c) (b - d)) = sg (a - c) (b - d) := by rw [wrap_i64_of] <;> omega
  rw [e1, e2, hw, Int.one_mul, Int.one_mul, Int.one_mul, Int.one_mul]
  simp only [beq_self_eq_true, pcond_true]
def ent_lawVersus : Ent := fun ds => match ds with
  | [.agg [.v (.int .i64 a), .v (.int .i64 b)], .agg [.v (.int .i64 c), .v (.int .i64 d)], .v (.int .i64 k)] => some (.v (.bool true), True)
  | _ => none
theorem ent_lawVersus_ok : EntOk Try.prog 9 ent_lawVersus := by
  intro ds d c h hc; unfold ent_lawVersus at h; split at h
  · obtain ⟨rfl, rfl⟩ := pair_inj h; exact lawVersus_pure _ _ _ _ _
  · cases h
end Go.Proofs.Ytdaeefbljdadfaa
