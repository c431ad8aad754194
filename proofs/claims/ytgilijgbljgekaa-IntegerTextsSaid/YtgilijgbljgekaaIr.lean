/- The program's integers: calls that work on their caller's block, for texts. (Written by gen_ir.py.) -/
import Derived.Test.YtgilijgbljgekaaIq
import Derived.Test.YtgilijgbljgekaaIha
namespace Go.Proofs.Ytgilijgbljgekaa
open Go.VD
set_option linter.unusedVariables false
set_option linter.unusedSimpArgs false
set_option maxRecDepth 100000

theorem idiv32_pure (h l y : Int) (hpre : (0 ≤ h ∧ h < y) ∧ (0 ≤ l ∧ l < 4294967296) ∧ y < 4294967296) : PureJ Try.prog 81 [.v (.int .u32 h), .v (.int .u32 l), .v (.int .u32 y)] (.tup [.v (.int .u32 ((h * 4294967296 + l) / y)), .v (.int .u32 ((h * 4294967296 + l) % y))]) := by
  refine pureJ_of_vcx (call := noCalls) (lp := fun _ => none) (N := 10) T_ok mixed noCalls_ok Try.func81 rfl (by decide) (by kernel_rfl) (by kernel_rfl) (LpAll.none _) (by first | trivial | (simp only [NamelessL, Nameless, and_self, and_true, true_and]; done) | (simp [NamelessL, Nameless, u32s_nameless, namelessL_ints]; done)) (by first | trivial | (simp only [NamelessL, Nameless, and_self, and_true, true_and]; done) | (simp [NamelessL, Nameless, u32s_nameless, namelessL_ints]; done)) ?_
  refine of_eq (B := (True ∧ (True ∧ (True ∧ (True ∧ (True ∧ (pcond (y != (0 : Int)) (True ∧ (True ∧ (True ∧ (True ∧ (pcond (Decidable.decide (y ≤ h)) False (True ∧ (True ∧ (((0 : Int) ≤ (32 : Int)) ∧ (True ∧ (True ∧ (True ∧ (True ∧ (True ∧ (True ∧ (True ∧ (((IntKind.wrap IntKind.u64 y) ≠ (0 : Int)) ∧ (True ∧ (True ∧ (True ∧ (True ∧ (((IntKind.wrap IntKind.u64 y) ≠ (0 : Int)) ∧ (True ∧ (True ∧ (True ∧ ((Bool.true = Bool.true) ∧ (True ∧ ((True ∧ (True ∧ True)) ∧ ((D.tup [(D.v (Value.int IntKind.u32 (IntKind.wrap IntKind.u32 (IntKind.wrap IntKind.u64 (Int.tdiv (bits BinOp.or IntKind.u64 (IntKind.wrap IntKind.u64 ((IntKind.wrap IntKind.u64 h) * (4294967296 : Int))) (IntKind.wrap IntKind.u64 l)) (IntKind.wrap IntKind.u64 y)))))), (D.v (Value.int IntKind.u32 (IntKind.wrap IntKind.u32 (Int.tmod (bits BinOp.or IntKind.u64 (IntKind.wrap IntKind.u64 ((IntKind.wrap IntKind.u64 h) * (4294967296 : Int))) (IntKind.wrap IntKind.u64 l)) (IntKind.wrap IntKind.u64 y)))))]) = (D.tup [(D.v (Value.int IntKind.u32 (((h * (4294967296 : Int)) + l) / y))), (D.v (Value.int IntKind.u32 (((h * (4294967296 : Int)) + l) % y)))]))))))))))))))))))))))))))))) (True ∧ (True ∧ (True ∧ (((0 : Int) ≤ (32 : Int)) ∧ (True ∧ (True ∧ (True ∧ (True ∧ (True ∧ (True ∧ (True ∧ (((IntKind.wrap IntKind.u64 y) ≠ (0 : Int)) ∧ (True ∧ (True ∧ (True ∧ (True ∧ (((IntKind.wrap IntKind.u64 y) ≠ (0 : Int)) ∧ (True ∧ (True ∧ (True ∧ ((Bool.true = Bool.true) ∧ (True ∧ ((True ∧ (True ∧ True)) ∧ ((D.tup [(D.v (Value.int IntKind.u32 (IntKind.wrap IntKind.u32 (IntKind.wrap IntKind.u64 (Int.tdiv (bits BinOp.or IntKind.u64 (IntKind.wrap IntKind.u64 ((IntKind.wrap IntKind.u64 h) * (4294967296 : Int))) (IntKind.wrap IntKind.u64 l)) (IntKind.wrap IntKind.u64 y)))))), (D.v (Value.int IntKind.u32 (IntKind.wrap IntKind.u32 (Int.tmod (bits BinOp.or IntKind.u64 (IntKind.wrap IntKind.u64 ((IntKind.wrap IntKind.u64 h) * (4294967296 : Int))) (IntKind.wrap IntKind.u64 l)) (IntKind.wrap IntKind.u64 y)))))]) = (D.tup [(D.v (Value.int IntKind.u32 (((h * (4294967296 : Int)) + l) / y))), (D.v (Value.int IntKind.u32 (((h * (4294967296 : Int)) + l) % y)))])))))))))))))))))))))))))))))))) (by kernel_rfl) ?_
  simp only [true_and, and_true, and_self, IsInt_lit, IsBool_lit, IsStr_lit, Bool.not_eq_true', Bool.not_eq_false', Bool.not_true, Bool.not_false, Int.reduceLE, Int.reduceLT, Int.reduceNeg, Nat.le_refl, Int.le_refl, Nat.reduceLT, Nat.reduceLeDiff, Nat.reduceEqDiff, D.v.injEq, D.tup.injEq, D.agg.injEq, D.ro.injEq, List.cons.injEq, Value.int.injEq, Value.bool.injEq, pcond_true, pcond_false, NamelessL, Nameless, Nat.reduceMul, Nat.reduceAdd, Nat.zero_add, Int.toNat_natCast]
  obtain ⟨⟨h0, h1⟩, ⟨l0, l1⟩, hy⟩ := hpre
  obtain ⟨h, rfl⟩ := Int.eq_ofNat_of_zero_le h0
  obtain ⟨l, rfl⟩ := Int.eq_ofNat_of_zero_le l0
  obtain ⟨y, rfl⟩ := Int.eq_ofNat_of_zero_le (show 0 ≤ y by omega)
  have e0 := or_shift (a := h) (b := l) (by omega) (by omega)
  have w0 : IntKind.u64.wrap ((h : Nat) : Int) = (h : Nat) := by rw [wrap_u64]; omega
  have w1 : IntKind.u64.wrap ((y : Nat) : Int) = (y : Nat) := by rw [wrap_u64]; omega
  have e1 : (h : Int) * 4294967296 + l = ((l + 4294967296 * h : Nat) : Int) := by omega
  have hb : l + 4294967296 * h < y * 4294967296 := by
    have : (h + 1) * 4294967296 ≤ y * 4294967296 := Nat.mul_le_mul_right _ (by omega)
    omega
  have hq : (l + 4294967296 * h) / y < 4294967296 := by
    rw [Nat.div_lt_iff_lt_mul (by omega)]; omega
  have hr : (l + 4294967296 * h) % y < y := Nat.mod_lt _ (by omega)
  refine pcond_intro (fun _ => pcond_intro (fun h2 => ?_) (fun _ => ?_)) (fun h2 => ?_)
  · simp only [decide_eq_true_eq] at h2; omega
  · simp only [w0, w1, e0, e1]
    generalize l + 4294967296 * h = v at *
    refine ⟨by omega, by omega, ?_, ?_⟩
    · rw [Int.tdiv_eq_ediv_of_nonneg (by omega), ← Int.natCast_ediv, wrap_u64, wrap_u32]; generalize v / y = q at *; omega
    · rw [Int.tmod_eq_emod_of_nonneg (by omega), ← Int.natCast_emod, wrap_u32]; generalize v % y = q at *; omega
  · simp at h2; omega
def ent_idiv32 : Ent := fun ds => match ds with
  | [.v (.int .u32 h), .v (.int .u32 l), .v (.int .u32 y)] => some (.tup [.v (.int .u32 ((h * 4294967296 + l) / y)), .v (.int .u32 ((h * 4294967296 + l) % y))], (0 ≤ h ∧ h < y) ∧ (0 ≤ l ∧ l < 4294967296) ∧ y < 4294967296)
  | _ => none
theorem ent_idiv32_ok : EntOk Try.prog 81 ent_idiv32 := by
  intro ds d c h hc; unfold ent_idiv32 at h; split at h
  · obtain ⟨rfl, rfl⟩ := pair_inj h; exact idiv32_pure _ _ _ hc
  · cases h
def d_zb (full : Bool) (o : List Nat) : Heap := [some ⟨48, u32s o, full⟩]
def d_sE (n : Nat) : D := .sl 0 0 n (.toEnd 1)
def lp_digE (full : Bool) (zs : List Nat) (n d : Nat) : LoopO := loopRuleD (α := Nat) (β := Unit) (fun k => k ≤ n)
  (fun k => [(0, d_sE n), (1, .v (.int .u32 (d : Int))), (5, .v (.int .u32 (remT zs n d k : Nat))), (6, .v (.int .i64 ((k : Int) - 1)))])
  (fun k => d_zb full (divT zs n d k)) n (fun _ => True) (fun _ => (.exit 0, [(5, .v (.int .u32 (remT zs n d 0 : Nat)))], d_zb full (divT zs n d 0)))
theorem digE_rule (full : Bool) (zs : List Nat) (n d : Nat) (hpre : (n ≤ zs.length ∧ zs.length ≤ 1000000) ∧ Dig zs ∧ 0 < d ∧ d < 4294967296) : LRule Try.prog Try.f53.ntmps (loopAt ((Try.f53.body).getD .skip) 3) (lp_digE full zs n d) := by
  refine lruleD_of (α := Nat) (β := Unit) (call := addPure 81 ent_idiv32 noCalls) (lp := fun _ => none) (N := 10) T_ok mixed (addPure_ok ent_idiv32_ok noCalls_ok) (fun k => k) (by kernel_rfl) (LpAll.none _) ?_
  intro k hJ
  refine of_eq (B := (True ∧ (True ∧ (pcond (Decidable.decide ((0 : Int) ≤ (((k : Nat) : Int) - (1 : Int)))) (True ∧ (True ∧ (True ∧ (True ∧ (True ∧ ((((0 : Int) ≤ (((k : Nat) : Int) - (1 : Int))) ∧ ((((k : Nat) : Int) - (1 : Int)) < ((n : Nat) : Int))) ∧ (((((0 : Nat) + ((Int.toNat (((k : Nat) : Int) - (1 : Int))) * (1 : Nat))) < (List.length (u32s (divT zs n d k)))) ∧ (IsInt IntKind.u32 (List.getD (u32s (divT zs n d k)) ((0 : Nat) + ((Int.toNat (((k : Nat) : Int) - (1 : Int))) * (1 : Nat))) (Inhabited.default)))) ∧ (True ∧ (((((0 : Int) ≤ (((remT zs n d k) : Nat) : Int)) ∧ ((((remT zs n d k) : Nat) : Int) < ((d : Nat) : Int))) ∧ ((((0 : Int) ≤ (cellInt (List.getD (u32s (divT zs n d k)) ((0 : Nat) + ((Int.toNat (((k : Nat) : Int) - (1 : Int))) * (1 : Nat))) (Inhabited.default)))) ∧ ((cellInt (List.getD (u32s (divT zs n d k)) ((0 : Nat) + ((Int.toNat (((k : Nat) : Int) - (1 : Int))) * (1 : Nat))) (Inhabited.default))) < (4294967296 : Int))) ∧ (((d : Nat) : Int) < (4294967296 : Int)))) ∧ (True ∧ (True ∧ (True ∧ ((((0 : Int) ≤ (((k : Nat) : Int) - (1 : Int))) ∧ ((((k : Nat) : Int) - (1 : Int)) < ((n : Nat) : Int))) ∧ ((((1 : Nat) = (1 : Nat)) ∧ ((((0 : Nat) + ((Int.toNat (((k : Nat) : Int) - (1 : Int))) * (1 : Nat))) + (1 : Nat)) ≤ (List.length (u32s (divT zs n d k))))) ∧ (True ∧ (True ∧ (True ∧ (True ∧ (∃ (y : Nat), ((y < k) ∧ ((y ≤ n) ∧ ((((Option.some (D.sl (0 : Nat) (0 : Nat) n (Cap.toEnd (1 : Nat)))) = (Option.some (D.sl (0 : Nat) (0 : Nat) n (Cap.toEnd (1 : Nat))))) ∧ (((Option.some (D.v (Value.int IntKind.u32 ((d : Nat) : Int)))) = (Option.some (D.v (Value.int IntKind.u32 ((d : Nat) : Int))))) ∧ (((Option.some (D.v (Value.int IntKind.u32 ((((((remT zs n d k) : Nat) : Int) * (4294967296 : Int)) + (cellInt (List.getD (u32s (divT zs n d k)) ((0 : Nat) + ((Int.toNat (((k : Nat) : Int) - (1 : Int))) * (1 : Nat))) (Inhabited.default)))) % ((d : Nat) : Int))))) = (Option.some (D.v (Value.int IntKind.u32 (((remT zs n d y) : Nat) : Int))))) ∧ (((Option.some (D.v (Value.int IntKind.i64 (IntKind.wrap IntKind.i64 ((((k : Nat) : Int) - (1 : Int)) - (1 : Int)))))) = (Option.some (D.v (Value.int IntKind.i64 (((y : Nat) : Int) - (1 : Int)))))) ∧ True)))) ∧ ([(Option.some (Blk.mk (48 : Nat) (List.set (u32s (divT zs n d k)) ((0 : Nat) + ((Int.toNat (((k : Nat) : Int) - (1 : Int))) * (1 : Nat))) (D.v (Value.int IntKind.u32 ((((((remT zs n d k) : Nat) : Int) * (4294967296 : Int)) + (cellInt (List.getD (u32s (divT zs n d k)) ((0 : Nat) + ((Int.toNat (((k : Nat) : Int) - (1 : Int))) * (1 : Nat))) (Inhabited.default)))) / ((d : Nat) : Int))))) full))] = [(Option.some (Blk.mk (48 : Nat) (u32s (divT zs n d y)) full))]))))))))))))))))))))))) (∃ (r : Unit), (True ∧ (((Exit.exit (0 : Nat)) = (Exit.exit (0 : Nat))) ∧ ((((Option.some (D.v (Value.int IntKind.u32 (((remT zs n d k) : Nat) : Int)))) = (Option.some (D.v (Value.int IntKind.u32 (((remT zs n d (0 : Nat)) : Nat) : Int))))) ∧ True) ∧ ([(Option.some (Blk.mk (48 : Nat) (u32s (divT zs n d k)) full))] = [(Option.some (Blk.mk (48 : Nat) (u32s (divT zs n d (0 : Nat))) full))]))))))))) (by kernel_rfl) ?_
  simp only [true_and, and_true, and_self, IsInt_lit, IsBool_lit, IsStr_lit, Bool.not_eq_true', Bool.not_eq_false', Bool.not_true, Bool.not_false, Int.reduceLE, Int.reduceLT, Int.reduceNeg, Nat.le_refl, Int.le_refl, Nat.reduceLT, Nat.reduceLeDiff, Nat.reduceEqDiff, D.v.injEq, D.tup.injEq, D.agg.injEq, D.ro.injEq, List.cons.injEq, Value.int.injEq, Value.bool.injEq, pcond_true, pcond_false, NamelessL, Nameless, Nat.reduceMul, Nat.reduceAdd, Nat.zero_add, Int.toNat_natCast]
  obtain ⟨⟨hl, hb⟩, hz, hd, hd2⟩ := hpre
  refine pcond_intro (fun h => ?_) (fun h => ?_)
  · simp only [decide_eq_true_eq] at h
    obtain ⟨j, rfl⟩ : ∃ j, k = j + 1 := ⟨k - 1, by omega⟩
    have e : ((j + 1 : Nat) : Int) - 1 = (j : Int) := by omega
    have w : IntKind.i64.wrap ((j : Int) - 1) = (j : Int) - 1 := wrap_i64_of (by omega) (by omega)
    have hlen := divT_length (d := d) (k := j + 1) hl (by omega)
    have hg := divT_get (d := d) (k := j) hl (by omega)
    have hs := divT_set (k := j) hz hl hd (by omega)
    have hr := remT_succ (zs := zs) (d := d) (show j < n by omega)
    have hrl := remT_lt (zs := zs) (n := n) (k := j + 1) hd
    have hx := hz.get j
    have hq : ((remT zs n d (j + 1) : Nat) * 4294967296 + (zs.getD j 0 : Nat) : Int) / (d : Nat) = (((remT zs n d (j + 1) * 4294967296 + zs.getD j 0) / d : Nat) : Int) := by
      rw [Int.natCast_ediv]; congr 1
    have hm : ((remT zs n d (j + 1) : Nat) * 4294967296 + (zs.getD j 0 : Nat) : Int) % (d : Nat) = (((remT zs n d (j + 1) * 4294967296 + zs.getD j 0) % d : Nat) : Int) := by
      rw [Int.natCast_emod]; congr 1
    simp only [e, w, Nat.mul_one, Int.toNat_natCast, u32s_cell, u32s_length, hlen, hg, hq, hm, u32s_isInt (divT zs n d (j + 1)) j (by omega), u32s_put, hs, hr]
    refine ⟨⟨by omega, by omega⟩, ⟨by omega, trivial⟩, ⟨⟨by omega, by omega⟩, ⟨by omega, by omega⟩, by omega⟩, ⟨by omega, by omega⟩, by omega, j, by omega, by omega, ⟨rfl, rfl⟩, rfl⟩
  · simp only [decide_eq_false_iff_not] at h
    have h : k = 0 := by omega
    subst h
    exact ⟨(), rfl, rfl⟩
theorem digE_mut (full : Bool) (zs : List Nat) (n d : Nat) (hpre : (n ≤ zs.length ∧ zs.length ≤ 1000000) ∧ Dig zs ∧ 0 < d ∧ d < 4294967296) : MutJ Try.prog 53 0 n (.toEnd 1) [.v (.int .u32 (d : Int))] ⟨48, u32s zs, full⟩ (.v (.int .u32 (nv (zs.take n) % d : Nat))) ⟨48, u32s (dgn n (nv (zs.take n) / d) ++ zs.drop n), full⟩ := by
  refine mutJ_of_vcx (call := noCalls) (lp := fun k' => bif Nat.beq k' 3 then some (lp_digE full zs n d) else none) (N := 10) T_ok mixed noCalls_ok Try.func53 rfl (by decide) (by kernel_rfl) (by kernel_rfl)
    (of_eq (B := LRule Try.prog Try.f53.ntmps (loopAt ((Try.f53.body).getD .skip) 3) (lp_digE full zs n d) ∧ True) (by kernel_rfl) ⟨digE_rule full zs n d hpre, trivial⟩) (by simp [NamelessL, Nameless]) (by simp [Nameless]) (u32s_nameless _) (u32s_nameless _) ?_
  refine of_eq (B := (True ∧ (True ∧ (True ∧ (True ∧ (True ∧ (True ∧ ((n ≤ n) ∧ ((((Option.some (D.sl (0 : Nat) (0 : Nat) n (Cap.toEnd (1 : Nat)))) = (Option.some (D.sl (0 : Nat) (0 : Nat) n (Cap.toEnd (1 : Nat))))) ∧ (((Option.some (D.v (Value.int IntKind.u32 ((d : Nat) : Int)))) = (Option.some (D.v (Value.int IntKind.u32 ((d : Nat) : Int))))) ∧ (((Option.some (D.v (Value.int IntKind.u32 (0 : Int)))) = (Option.some (D.v (Value.int IntKind.u32 (((remT zs n d n) : Nat) : Int))))) ∧ (((Option.some (D.v (Value.int IntKind.i64 (IntKind.wrap IntKind.i64 (((n : Nat) : Int) - (1 : Int)))))) = (Option.some (D.v (Value.int IntKind.i64 (((n : Nat) : Int) - (1 : Int)))))) ∧ True)))) ∧ (([(Option.some (Blk.mk (48 : Nat) (u32s zs) full))] = [(Option.some (Blk.mk (48 : Nat) (u32s (divT zs n d n)) full))]) ∧ (Unit → (True → (True ∧ (True ∧ (True ∧ (((D.v (Value.int IntKind.u32 (((remT zs n d (0 : Nat)) : Nat) : Int))) = (D.v (Value.int IntKind.u32 ((((nv (List.take n zs)) % d) : Nat) : Int)))) ∧ ([(Option.some (Blk.mk (48 : Nat) (u32s (divT zs n d (0 : Nat))) full))] = [(Option.some (Blk.mk (48 : Nat) (u32s ((dgn n ((nv (List.take n zs)) / d)) ++ (List.drop n zs))) full))]))))))))))))))))) (by kernel_rfl) ?_
  simp only [true_and, and_true, and_self, IsInt_lit, IsBool_lit, IsStr_lit, Bool.not_eq_true', Bool.not_eq_false', Bool.not_true, Bool.not_false, Int.reduceLE, Int.reduceLT, Int.reduceNeg, Nat.le_refl, Int.le_refl, Nat.reduceLT, Nat.reduceLeDiff, Nat.reduceEqDiff, D.v.injEq, D.tup.injEq, D.agg.injEq, D.ro.injEq, List.cons.injEq, Value.int.injEq, Value.bool.injEq, pcond_true, pcond_false, NamelessL, Nameless, Nat.reduceMul, Nat.reduceAdd, Nat.zero_add, Int.toNat_natCast]
  obtain ⟨⟨hl, hb⟩, hz, hd, hd2⟩ := hpre
  obtain ⟨e1, e2⟩ := divT_start (d := d) hl
  obtain ⟨e3, e4⟩ := divT_end zs n d
  have hw : IntKind.i64.wrap ((n : Int) - 1) = (n : Int) - 1 := wrap_i64_of (by omega) (by omega)
  simp only [e1, e2, e3, e4, hw, true_and, and_true, and_self, IsInt_lit, IsBool_lit, IsStr_lit, Bool.not_eq_true', Bool.not_eq_false', Bool.not_true, Bool.not_false, Int.reduceLE, Int.reduceLT, Int.reduceNeg, Nat.le_refl, Int.le_refl, Nat.reduceLT, Nat.reduceLeDiff, Nat.reduceEqDiff, D.v.injEq, D.tup.injEq, D.agg.injEq, D.ro.injEq, List.cons.injEq, Value.int.injEq, Value.bool.injEq, pcond_true, pcond_false, NamelessL, Nameless, Nat.reduceMul, Nat.reduceAdd, Nat.zero_add, Int.toNat_natCast]
  simp
def d_sX (n : Nat) : D := .sl 0 0 n (.exact n 1)
def lp_digX (full : Bool) (zs : List Nat) (n d : Nat) : LoopO := loopRuleD (α := Nat) (β := Unit) (fun k => k ≤ n)
  (fun k => [(0, d_sX n), (1, .v (.int .u32 (d : Int))), (5, .v (.int .u32 (remT zs n d k : Nat))), (6, .v (.int .i64 ((k : Int) - 1)))])
  (fun k => d_zb full (divT zs n d k)) n (fun _ => True) (fun _ => (.exit 0, [(5, .v (.int .u32 (remT zs n d 0 : Nat)))], d_zb full (divT zs n d 0)))
theorem digX_rule (full : Bool) (zs : List Nat) (n d : Nat) (hpre : (n ≤ zs.length ∧ zs.length ≤ 1000000) ∧ Dig zs ∧ 0 < d ∧ d < 4294967296) : LRule Try.prog Try.f53.ntmps (loopAt ((Try.f53.body).getD .skip) 3) (lp_digX full zs n d) := by
  refine lruleD_of (α := Nat) (β := Unit) (call := addPure 81 ent_idiv32 noCalls) (lp := fun _ => none) (N := 10) T_ok mixed (addPure_ok ent_idiv32_ok noCalls_ok) (fun k => k) (by kernel_rfl) (LpAll.none _) ?_
  intro k hJ
  refine of_eq (B := (True ∧ (True ∧ (pcond (Decidable.decide ((0 : Int) ≤ (((k : Nat) : Int) - (1 : Int)))) (True ∧ (True ∧ (True ∧ (True ∧ (True ∧ ((((0 : Int) ≤ (((k : Nat) : Int) - (1 : Int))) ∧ ((((k : Nat) : Int) - (1 : Int)) < ((n : Nat) : Int))) ∧ (((((0 : Nat) + ((Int.toNat (((k : Nat) : Int) - (1 : Int))) * (1 : Nat))) < (List.length (u32s (divT zs n d k)))) ∧ (IsInt IntKind.u32 (List.getD (u32s (divT zs n d k)) ((0 : Nat) + ((Int.toNat (((k : Nat) : Int) - (1 : Int))) * (1 : Nat))) (Inhabited.default)))) ∧ (True ∧ (((((0 : Int) ≤ (((remT zs n d k) : Nat) : Int)) ∧ ((((remT zs n d k) : Nat) : Int) < ((d : Nat) : Int))) ∧ ((((0 : Int) ≤ (cellInt (List.getD (u32s (divT zs n d k)) ((0 : Nat) + ((Int.toNat (((k : Nat) : Int) - (1 : Int))) * (1 : Nat))) (Inhabited.default)))) ∧ ((cellInt (List.getD (u32s (divT zs n d k)) ((0 : Nat) + ((Int.toNat (((k : Nat) : Int) - (1 : Int))) * (1 : Nat))) (Inhabited.default))) < (4294967296 : Int))) ∧ (((d : Nat) : Int) < (4294967296 : Int)))) ∧ (True ∧ (True ∧ (True ∧ ((((0 : Int) ≤ (((k : Nat) : Int) - (1 : Int))) ∧ ((((k : Nat) : Int) - (1 : Int)) < ((n : Nat) : Int))) ∧ ((((1 : Nat) = (1 : Nat)) ∧ ((((0 : Nat) + ((Int.toNat (((k : Nat) : Int) - (1 : Int))) * (1 : Nat))) + (1 : Nat)) ≤ (List.length (u32s (divT zs n d k))))) ∧ (True ∧ (True ∧ (True ∧ (True ∧ (∃ (y : Nat), ((y < k) ∧ ((y ≤ n) ∧ ((((Option.some (D.sl (0 : Nat) (0 : Nat) n (Cap.exact n (1 : Nat)))) = (Option.some (D.sl (0 : Nat) (0 : Nat) n (Cap.exact n (1 : Nat))))) ∧ (((Option.some (D.v (Value.int IntKind.u32 ((d : Nat) : Int)))) = (Option.some (D.v (Value.int IntKind.u32 ((d : Nat) : Int))))) ∧ (((Option.some (D.v (Value.int IntKind.u32 ((((((remT zs n d k) : Nat) : Int) * (4294967296 : Int)) + (cellInt (List.getD (u32s (divT zs n d k)) ((0 : Nat) + ((Int.toNat (((k : Nat) : Int) - (1 : Int))) * (1 : Nat))) (Inhabited.default)))) % ((d : Nat) : Int))))) = (Option.some (D.v (Value.int IntKind.u32 (((remT zs n d y) : Nat) : Int))))) ∧ (((Option.some (D.v (Value.int IntKind.i64 (IntKind.wrap IntKind.i64 ((((k : Nat) : Int) - (1 : Int)) - (1 : Int)))))) = (Option.some (D.v (Value.int IntKind.i64 (((y : Nat) : Int) - (1 : Int)))))) ∧ True)))) ∧ ([(Option.some (Blk.mk (48 : Nat) (List.set (u32s (divT zs n d k)) ((0 : Nat) + ((Int.toNat (((k : Nat) : Int) - (1 : Int))) * (1 : Nat))) (D.v (Value.int IntKind.u32 ((((((remT zs n d k) : Nat) : Int) * (4294967296 : Int)) + (cellInt (List.getD (u32s (divT zs n d k)) ((0 : Nat) + ((Int.toNat (((k : Nat) : Int) - (1 : Int))) * (1 : Nat))) (Inhabited.default)))) / ((d : Nat) : Int))))) full))] = [(Option.some (Blk.mk (48 : Nat) (u32s (divT zs n d y)) full))]))))))))))))))))))))))) (∃ (r : Unit), (True ∧ (((Exit.exit (0 : Nat)) = (Exit.exit (0 : Nat))) ∧ ((((Option.some (D.v (Value.int IntKind.u32 (((remT zs n d k) : Nat) : Int)))) = (Option.some (D.v (Value.int IntKind.u32 (((remT zs n d (0 : Nat)) : Nat) : Int))))) ∧ True) ∧ ([(Option.some (Blk.mk (48 : Nat) (u32s (divT zs n d k)) full))] = [(Option.some (Blk.mk (48 : Nat) (u32s (divT zs n d (0 : Nat))) full))]))))))))) (by kernel_rfl) ?_
  simp only [true_and, and_true, and_self, IsInt_lit, IsBool_lit, IsStr_lit, Bool.not_eq_true', Bool.not_eq_false', Bool.not_true, Bool.not_false, Int.reduceLE, Int.reduceLT, Int.reduceNeg, Nat.le_refl, Int.le_refl, Nat.reduceLT, Nat.reduceLeDiff, Nat.reduceEqDiff, D.v.injEq, D.tup.injEq, D.agg.injEq, D.ro.injEq, List.cons.injEq, Value.int.injEq, Value.bool.injEq, pcond_true, pcond_false, NamelessL, Nameless, Nat.reduceMul, Nat.reduceAdd, Nat.zero_add, Int.toNat_natCast]
  obtain ⟨⟨hl, hb⟩, hz, hd, hd2⟩ := hpre
  refine pcond_intro (fun h => ?_) (fun h => ?_)
  · simp only [decide_eq_true_eq] at h
    obtain ⟨j, rfl⟩ : ∃ j, k = j + 1 := ⟨k - 1, by omega⟩
    have e : ((j + 1 : Nat) : Int) - 1 = (j : Int) := by omega
    have w : IntKind.i64.wrap ((j : Int) - 1) = (j : Int) - 1 := wrap_i64_of (by omega) (by omega)
    have hlen := divT_length (d := d) (k := j + 1) hl (by omega)
    have hg := divT_get (d := d) (k := j) hl (by omega)
    have hs := divT_set (k := j) hz hl hd (by omega)
    have hr := remT_succ (zs := zs) (d := d) (show j < n by omega)
    have hrl := remT_lt (zs := zs) (n := n) (k := j + 1) hd
    have hx := hz.get j
    have hq : ((remT zs n d (j + 1) : Nat) * 4294967296 + (zs.getD j 0 : Nat) : Int) / (d : Nat) = (((remT zs n d (j + 1) * 4294967296 + zs.getD j 0) / d : Nat) : Int) := by
      rw [Int.natCast_ediv]; congr 1
    have hm : ((remT zs n d (j + 1) : Nat) * 4294967296 + (zs.getD j 0 : Nat) : Int) % (d : Nat) = (((remT zs n d (j + 1) * 4294967296 + zs.getD j 0) % d : Nat) : Int) := by
      rw [Int.natCast_emod]; congr 1
    simp only [e, w, Nat.mul_one, Int.toNat_natCast, u32s_cell, u32s_length, hlen, hg, hq, hm, u32s_isInt (divT zs n d (j + 1)) j (by omega), u32s_put, hs, hr]
    refine ⟨⟨by omega, by omega⟩, ⟨by omega, trivial⟩, ⟨⟨by omega, by omega⟩, ⟨by omega, by omega⟩, by omega⟩, ⟨by omega, by omega⟩, by omega, j, by omega, by omega, ⟨rfl, rfl⟩, rfl⟩
  · simp only [decide_eq_false_iff_not] at h
    have h : k = 0 := by omega
    subst h
    exact ⟨(), rfl, rfl⟩
theorem digX_mut (full : Bool) (zs : List Nat) (n d : Nat) (hpre : (n ≤ zs.length ∧ zs.length ≤ 1000000) ∧ Dig zs ∧ 0 < d ∧ d < 4294967296) : MutJ Try.prog 53 0 n (.exact n 1) [.v (.int .u32 (d : Int))] ⟨48, u32s zs, full⟩ (.v (.int .u32 (nv (zs.take n) % d : Nat))) ⟨48, u32s (dgn n (nv (zs.take n) / d) ++ zs.drop n), full⟩ := by
  refine mutJ_of_vcx (call := noCalls) (lp := fun k' => bif Nat.beq k' 3 then some (lp_digX full zs n d) else none) (N := 10) T_ok mixed noCalls_ok Try.func53 rfl (by decide) (by kernel_rfl) (by kernel_rfl)
    (of_eq (B := LRule Try.prog Try.f53.ntmps (loopAt ((Try.f53.body).getD .skip) 3) (lp_digX full zs n d) ∧ True) (by kernel_rfl) ⟨digX_rule full zs n d hpre, trivial⟩) (by simp [NamelessL, Nameless]) (by simp [Nameless]) (u32s_nameless _) (u32s_nameless _) ?_
  refine of_eq (B := (True ∧ (True ∧ (True ∧ (True ∧ (True ∧ (True ∧ ((n ≤ n) ∧ ((((Option.some (D.sl (0 : Nat) (0 : Nat) n (Cap.exact n (1 : Nat)))) = (Option.some (D.sl (0 : Nat) (0 : Nat) n (Cap.exact n (1 : Nat))))) ∧ (((Option.some (D.v (Value.int IntKind.u32 ((d : Nat) : Int)))) = (Option.some (D.v (Value.int IntKind.u32 ((d : Nat) : Int))))) ∧ (((Option.some (D.v (Value.int IntKind.u32 (0 : Int)))) = (Option.some (D.v (Value.int IntKind.u32 (((remT zs n d n) : Nat) : Int))))) ∧ (((Option.some (D.v (Value.int IntKind.i64 (IntKind.wrap IntKind.i64 (((n : Nat) : Int) - (1 : Int)))))) = (Option.some (D.v (Value.int IntKind.i64 (((n : Nat) : Int) - (1 : Int)))))) ∧ True)))) ∧ (([(Option.some (Blk.mk (48 : Nat) (u32s zs) full))] = [(Option.some (Blk.mk (48 : Nat) (u32s (divT zs n d n)) full))]) ∧ (Unit → (True → (True ∧ (True ∧ (True ∧ (((D.v (Value.int IntKind.u32 (((remT zs n d (0 : Nat)) : Nat) : Int))) = (D.v (Value.int IntKind.u32 ((((nv (List.take n zs)) % d) : Nat) : Int)))) ∧ ([(Option.some (Blk.mk (48 : Nat) (u32s (divT zs n d (0 : Nat))) full))] = [(Option.some (Blk.mk (48 : Nat) (u32s ((dgn n ((nv (List.take n zs)) / d)) ++ (List.drop n zs))) full))]))))))))))))))))) (by kernel_rfl) ?_
  simp only [true_and, and_true, and_self, IsInt_lit, IsBool_lit, IsStr_lit, Bool.not_eq_true', Bool.not_eq_false', Bool.not_true, Bool.not_false, Int.reduceLE, Int.reduceLT, Int.reduceNeg, Nat.le_refl, Int.le_refl, Nat.reduceLT, Nat.reduceLeDiff, Nat.reduceEqDiff, D.v.injEq, D.tup.injEq, D.agg.injEq, D.ro.injEq, List.cons.injEq, Value.int.injEq, Value.bool.injEq, pcond_true, pcond_false, NamelessL, Nameless, Nat.reduceMul, Nat.reduceAdd, Nat.zero_add, Int.toNat_natCast]
  obtain ⟨⟨hl, hb⟩, hz, hd, hd2⟩ := hpre
  obtain ⟨e1, e2⟩ := divT_start (d := d) hl
  obtain ⟨e3, e4⟩ := divT_end zs n d
  have hw : IntKind.i64.wrap ((n : Int) - 1) = (n : Int) - 1 := wrap_i64_of (by omega) (by omega)
  simp only [e1, e2, e3, e4, hw, true_and, and_true, and_self, IsInt_lit, IsBool_lit, IsStr_lit, Bool.not_eq_true', Bool.not_eq_false', Bool.not_true, Bool.not_false, Int.reduceLE, Int.reduceLT, Int.reduceNeg, Nat.le_refl, Int.le_refl, Nat.reduceLT, Nat.reduceLeDiff, Nat.reduceEqDiff, D.v.injEq, D.tup.injEq, D.agg.injEq, D.ro.injEq, List.cons.injEq, Value.int.injEq, Value.bool.injEq, pcond_true, pcond_false, NamelessL, Nameless, Nat.reduceMul, Nat.reduceAdd, Nat.zero_add, Int.toNat_natCast]
  simp
def entm_dig : EntM := fun off n c plain blk => match c, plain, blk with
  | .toEnd 1, [.v (.int .u32 d)], ⟨ty, cs, full⟩ => some (.v (.int .u32 (nv ((unu cs).take n) % d.toNat : Nat)), ⟨ty, u32s (dgn n (nv ((unu cs).take n) / d.toNat) ++ (unu cs).drop n), full⟩,
      ((ty = 48 ∧ off = 0) ∧ cs = u32s (unu cs)) ∧ (0 < d ∧ d < 4294967296) ∧ (n ≤ (unu cs).length ∧ (unu cs).length ≤ 1000000) ∧ Dig (unu cs))
  | .exact cap 1, [.v (.int .u32 d)], ⟨ty, cs, full⟩ => some (.v (.int .u32 (nv ((unu cs).take n) % d.toNat : Nat)), ⟨ty, u32s (dgn n (nv ((unu cs).take n) / d.toNat) ++ (unu cs).drop n), full⟩,
      ((ty = 48 ∧ off = 0) ∧ cs = u32s (unu cs) ∧ cap = n) ∧ (0 < d ∧ d < 4294967296) ∧ (n ≤ (unu cs).length ∧ (unu cs).length ≤ 1000000) ∧ Dig (unu cs))
  | _, _, _ => none
theorem entm_dig_ok : EntMOk Try.prog 53 entm_dig := by
  intro off n c plain blk d blk' p h hp
  unfold entm_dig at h
  split at h
  · rename_i dv ty cs full
    simp only [Option.some.injEq, Prod.mk.injEq] at h
    obtain ⟨rfl, rfl, rfl⟩ := h
    obtain ⟨⟨⟨rfl, rfl⟩, hcs⟩, ⟨hd0, hd⟩, hl, hz⟩ := hp
    obtain ⟨dv, rfl⟩ := Int.eq_ofNat_of_zero_le (show 0 ≤ dv by omega)
    generalize unu cs = zs at *
    subst hcs
    simp only [Int.ofNat_eq_natCast, Int.toNat_natCast] at *
    exact digE_mut full zs n dv ⟨hl, hz, by omega, by omega⟩
  · rename_i cap dv ty cs full
    simp only [Option.some.injEq, Prod.mk.injEq] at h
    obtain ⟨rfl, rfl, rfl⟩ := h
    obtain ⟨⟨⟨rfl, rfl⟩, hcs, rfl⟩, ⟨hd0, hd⟩, hl, hz⟩ := hp
    obtain ⟨dv, rfl⟩ := Int.eq_ofNat_of_zero_le (show 0 ≤ dv by omega)
    generalize unu cs = zs at *
    subst hcs
    simp only [Int.ofNat_eq_natCast, Int.toNat_natCast] at *
    exact digX_mut full zs _ dv ⟨hl, hz, by omega, by omega⟩
  · cases h
end Go.Proofs.Ytgilijgbljgekaa
