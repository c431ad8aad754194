/- The program's words: a rune beyond ASCII is none of the marks. -/
import Derived.Test.YthnhfkpihbjddaaYc
namespace Go.Proofs.Ythnhfkpihbjddaa
open Go.VD
set_option linter.unusedVariables false
set_option linter.unusedSimpArgs false
set_option maxRecDepth 100000

theorem iByte0_pure (s : ByteArray) (c : Int) : PureJ Try.prog 146 [.v (.string s), .v (.int .u8 c)] (.v (.int .i64 (Lib.indexByte s.data.toList c.toNat.toUInt8))) := by
  refine pureJ_of_vcx (call := (addExt 151 ent_x_index noCalls)) (lp := fun _ => none) (N := 10) T_ok mixed (addExt_ok ent_x_index_ok noCalls_ok) Try.func146 rfl (by decide) (by kernel_rfl) (by kernel_rfl) (LpAll.none _) (by first | trivial | (simp only [NamelessL, Nameless, and_self, and_true, true_and]; done) | (simp [NamelessL, Nameless, u32s_nameless, namelessL_ints]; done)) (by first | trivial | (simp only [NamelessL, Nameless, and_self, and_true, true_and]; done) | (simp [NamelessL, Nameless, u32s_nameless, namelessL_ints]; done)) ?_
  refine of_eq (B := (True ∧ (True ∧ (True ∧ (True ∧ (True ∧ (True ∧ (True ∧ ((D.v (Value.int IntKind.i64 (Lib.indexByte (Array.toList (ByteArray.data s)) (UInt8.ofBitVec (BitVec.ofFin (Fin.mk ((Int.toNat c) % (256 : Nat)) (Nat.mod_lt (Int.toNat c) (BitVec.ofNat._proof_1 (8 : Nat))))))))) = (D.v (Value.int IntKind.i64 (Lib.indexByte (Array.toList (ByteArray.data s)) (UInt8.ofBitVec (BitVec.ofFin (Fin.mk ((Int.toNat c) % (256 : Nat)) (Nat.mod_lt (Int.toNat c) (BitVec.ofNat._proof_1 (8 : Nat)))))))))))))))))) (by kernel_rfl) ?_
  simp only [true_and, and_true, and_self, IsInt_lit, IsBool_lit, IsStr_lit, Bool.not_eq_true', Bool.not_eq_false', Bool.not_true, Bool.not_false, Int.reduceLE, Int.reduceLT, Int.reduceNeg, Nat.le_refl, Int.le_refl, Nat.reduceLT, Nat.reduceLeDiff, Nat.reduceEqDiff, D.v.injEq, D.tup.injEq, D.agg.injEq, D.ro.injEq, List.cons.injEq, Value.int.injEq, Value.bool.injEq, pcond_true, pcond_false, NamelessL, Nameless, Nat.reduceMul, Nat.reduceAdd, Nat.zero_add, Int.toNat_natCast]
def ent_iByte0 : Ent := fun ds => match ds with
  | [.v (.string s), .v (.int .u8 c)] => some (.v (.int .i64 (Lib.indexByte s.data.toList c.toNat.toUInt8)), True)
  | _ => none
theorem ent_iByte0_ok : EntOk Try.prog 146 ent_iByte0 := by
  intro ds d c h hc; unfold ent_iByte0 at h; split at h
  · obtain ⟨rfl, rfl⟩ := pair_inj h; exact iByte0_pure _ _
  · cases h
theorem iByte_pure (s : ByteArray) (c : Int) : PureJ Try.prog 140 [.v (.string s), .v (.int .u8 c)] (.v (.int .i64 (Lib.indexByte s.data.toList c.toNat.toUInt8))) := by
  refine pureJ_of_vcx (call := (addPure 146 ent_iByte0 noCalls)) (lp := fun _ => none) (N := 10) T_ok mixed (addPure_ok ent_iByte0_ok noCalls_ok) Try.func140 rfl (by decide) (by kernel_rfl) (by kernel_rfl) (LpAll.none _) (by first | trivial | (simp only [NamelessL, Nameless, and_self, and_true, true_and]; done) | (simp [NamelessL, Nameless, u32s_nameless, namelessL_ints]; done)) (by first | trivial | (simp only [NamelessL, Nameless, and_self, and_true, true_and]; done) | (simp [NamelessL, Nameless, u32s_nameless, namelessL_ints]; done)) ?_
  refine of_eq (B := (True ∧ (True ∧ (True ∧ (True ∧ (True ∧ (True ∧ (True ∧ ((D.v (Value.int IntKind.i64 (Lib.indexByte (Array.toList (ByteArray.data s)) (UInt8.ofBitVec (BitVec.ofFin (Fin.mk ((Int.toNat c) % (256 : Nat)) (Nat.mod_lt (Int.toNat c) (BitVec.ofNat._proof_1 (8 : Nat))))))))) = (D.v (Value.int IntKind.i64 (Lib.indexByte (Array.toList (ByteArray.data s)) (UInt8.ofBitVec (BitVec.ofFin (Fin.mk ((Int.toNat c) % (256 : Nat)) (Nat.mod_lt (Int.toNat c) (BitVec.ofNat._proof_1 (8 : Nat)))))))))))))))))) (by kernel_rfl) ?_
  simp only [true_and, and_true, and_self, IsInt_lit, IsBool_lit, IsStr_lit, Bool.not_eq_true', Bool.not_eq_false', Bool.not_true, Bool.not_false, Int.reduceLE, Int.reduceLT, Int.reduceNeg, Nat.le_refl, Int.le_refl, Nat.reduceLT, Nat.reduceLeDiff, Nat.reduceEqDiff, D.v.injEq, D.tup.injEq, D.agg.injEq, D.ro.injEq, List.cons.injEq, Value.int.injEq, Value.bool.injEq, pcond_true, pcond_false, NamelessL, Nameless, Nat.reduceMul, Nat.reduceAdd, Nat.zero_add, Int.toNat_natCast]
def ent_iByte : Ent := fun ds => match ds with
  | [.v (.string s), .v (.int .u8 c)] => some (.v (.int .i64 (Lib.indexByte s.data.toList c.toNat.toUInt8)), True)
  | _ => none
theorem ent_iByte_ok : EntOk Try.prog 140 ent_iByte := by
  intro ds d c h hc; unfold ent_iByte at h; split at h
  · obtain ⟨rfl, rfl⟩ := pair_inj h; exact iByte_pure _ _
  · cases h
theorem vRune_pure (c : Int) : PureJ Try.prog 141 [.v (.int .i32 c)] (.v (.bool (Utf8.valid c))) := by
  refine pureJ_of_vcx (call := noCalls) (lp := fun _ => none) (N := 10) T_ok mixed noCalls_ok Try.func141 rfl (by decide) (by kernel_rfl) (by kernel_rfl) (LpAll.none _) (by first | trivial | (simp only [NamelessL, Nameless, and_self, and_true, true_and]; done) | (simp [NamelessL, Nameless, u32s_nameless, namelessL_ints]; done)) (by first | trivial | (simp only [NamelessL, Nameless, and_self, and_true, true_and]; done) | (simp [NamelessL, Nameless, u32s_nameless, namelessL_ints]; done)) ?_
  refine of_eq (B := (True ∧ (True ∧ (True ∧ (True ∧ (pcond (Decidable.decide ((0 : Int) ≤ c)) (True ∧ (True ∧ (True ∧ (True ∧ (pcond (Decidable.decide (c < (55296 : Int))) (True ∧ (True ∧ (True ∧ ((D.v (Value.bool Bool.true)) = (D.v (Value.bool (Utf8.valid c))))))) (True ∧ (True ∧ (True ∧ (pcond (Decidable.decide ((57343 : Int) < c)) (True ∧ (True ∧ (True ∧ (True ∧ (pcond (Decidable.decide (c ≤ (1114111 : Int))) (True ∧ (True ∧ (True ∧ ((D.v (Value.bool Bool.true)) = (D.v (Value.bool (Utf8.valid c))))))) (True ∧ (True ∧ (True ∧ ((D.v (Value.bool Bool.false)) = (D.v (Value.bool (Utf8.valid c)))))))))))) (True ∧ (True ∧ (True ∧ (True ∧ (True ∧ ((D.v (Value.bool Bool.false)) = (D.v (Value.bool (Utf8.valid c)))))))))))))))))) (True ∧ (True ∧ (True ∧ (True ∧ (True ∧ (pcond (Decidable.decide ((57343 : Int) < c)) (True ∧ (True ∧ (True ∧ (True ∧ (pcond (Decidable.decide (c ≤ (1114111 : Int))) (True ∧ (True ∧ (True ∧ ((D.v (Value.bool Bool.true)) = (D.v (Value.bool (Utf8.valid c))))))) (True ∧ (True ∧ (True ∧ ((D.v (Value.bool Bool.false)) = (D.v (Value.bool (Utf8.valid c)))))))))))) (True ∧ (True ∧ (True ∧ (True ∧ (True ∧ ((D.v (Value.bool Bool.false)) = (D.v (Value.bool (Utf8.valid c))))))))))))))))))))) (by kernel_rfl) ?_
  simp only [true_and, and_true, and_self, IsInt_lit, IsBool_lit, IsStr_lit, Bool.not_eq_true', Bool.not_eq_false', Bool.not_true, Bool.not_false, Int.reduceLE, Int.reduceLT, Int.reduceNeg, Nat.le_refl, Int.le_refl, Nat.reduceLT, Nat.reduceLeDiff, Nat.reduceEqDiff, D.v.injEq, D.tup.injEq, D.agg.injEq, D.ro.injEq, List.cons.injEq, Value.int.injEq, Value.bool.injEq, pcond_true, pcond_false, NamelessL, Nameless, Nat.reduceMul, Nat.reduceAdd, Nat.zero_add, Int.toNat_natCast]
  have e : Utf8.valid c = (decide (0 ≤ c) && decide (c < 55296) || (decide (57343 < c) && decide (c ≤ 1114111))) := by
    unfold Utf8.valid
    rw [Bool.eq_iff_iff]; simp; omega
  rw [e]
  cases decide (0 ≤ c) <;> cases decide (c < 55296) <;> cases decide (57343 < c) <;> cases decide (c ≤ 1114111) <;> simp [pcond]
def ent_vRune : Ent := fun ds => match ds with
  | [.v (.int .i32 c)] => some (.v (.bool (Utf8.valid c)), True)
  | _ => none
theorem ent_vRune_ok : EntOk Try.prog 141 ent_vRune := by
  intro ds d c h hc; unfold ent_vRune at h; split at h
  · obtain ⟨rfl, rfl⟩ := pair_inj h; exact vRune_pure _
  · cases h
def lp_never : LoopO := fun _ _ _ => False
theorem never_rule {P : Program} {nt : Nat} {c : Code} : LRuleP P nt c lp_never := fun _ _ _ h => h.elim
def marks : ByteArray := ⟨#[95, 45, 43, 46, 47, 58]⟩
theorem enc_high {c : Int} (hc : 128 ≤ c) (hv : Utf8.valid c = true) : 2 ≤ (Utf8.encode c).size ∧ (Utf8.encode c).size ≤ 4 ∧ ∀ j, j < (Utf8.encode c).size → 128 ≤ ((Utf8.encode c).data.toList.getD j 0).toNat := by
  have hl : c ≤ 1114111 := by
    unfold Utf8.valid at hv; simp only [Bool.or_eq_true, Bool.and_eq_true, decide_eq_true_eq] at hv; omega
  obtain ⟨n, rfl⟩ := Int.eq_ofNat_of_zero_le (show 0 ≤ c by omega)
  unfold Utf8.encode
  simp only [hv, if_true, Int.toNat_natCast]
  rw [if_neg (by omega)]
  split
  · refine ⟨show 2 ≤ 2 by decide, show 2 ≤ 4 by decide, fun j hj => ?_⟩
    have hj : j < 2 := hj
    match j, hj with
    | 0, _ => simp only [List.getD_cons_zero, UInt8.toNat_ofNat']; omega
    | 1, _ => simp only [List.getD_cons_succ, List.getD_cons_zero, UInt8.toNat_ofNat']; omega
  · split
    · refine ⟨show 2 ≤ 3 by decide, show 3 ≤ 4 by decide, fun j hj => ?_⟩
      have hj : j < 3 := hj
      match j, hj with
      | 0, _ => simp only [List.getD_cons_zero, UInt8.toNat_ofNat']; omega
      | 1, _ => simp only [List.getD_cons_succ, List.getD_cons_zero, UInt8.toNat_ofNat']; omega
      | 2, _ => simp only [List.getD_cons_succ, List.getD_cons_zero, UInt8.toNat_ofNat']; omega
    · refine ⟨show 2 ≤ 4 by decide, show 4 ≤ 4 by decide, fun j hj => ?_⟩
      have hj : j < 4 := hj
      match j, hj with
      | 0, _ => simp only [List.getD_cons_zero, UInt8.toNat_ofNat']; omega
      | 1, _ => simp only [List.getD_cons_succ, List.getD_cons_zero, UInt8.toNat_ofNat']; omega
      | 2, _ => simp only [List.getD_cons_succ, List.getD_cons_zero, UInt8.toNat_ofNat']; omega
      | 3, _ => simp only [List.getD_cons_succ, List.getD_cons_zero, UInt8.toNat_ofNat']; omega
theorem idx_none : ∀ (l : List UInt8) (b : UInt8), (∀ x ∈ l, x ≠ b) → Lib.indexByte l b = -1
  | [], b, _ => rfl
  | x :: l, b, h => by
    have h1 : (x == b) = false := beq_eq_false_iff_ne.2 (h x (by simp))
    simp only [Lib.indexByte, h1, idx_none l b fun y hy => h y (by simp [hy])]
    rfl
def mkI (c : Int) : Int := if c < 128 then Lib.indexByte marks.data.toList c.toNat.toUInt8 else -1
theorem iRune_pure (c : Int) (hpre : 0 ≤ c ∧ c < 2147483648) : PureJ Try.prog 131 [.v (.string marks), .v (.int .i32 c)] (.v (.int .i64 (mkI c))) := by
  refine pureJ_of_vcp (call := (addPure 141 ent_vRune (addPure 140 ent_iByte noCalls))) (lp := fun k => bif Nat.beq k 12 then some (lp_never ) else bif Nat.beq k 25 then some (lp_never ) else bif Nat.beq k 29 then some (lp_never ) else none) (N := 10) T_ok mixed (addPure_ok ent_vRune_ok (addPure_ok ent_iByte_ok noCalls_ok)) Try.func131 rfl (by decide) (by kernel_rfl) (by kernel_rfl) (of_eq (B := True ∧ True ∧ LRuleP Try.prog Try.f131.ntmps (loopAt ((Try.f131.body).getD .skip) 12) (lp_never ) ∧ LRuleP Try.prog Try.f131.ntmps (loopAt ((Try.f131.body).getD .skip) 25) (lp_never ) ∧ LRuleP Try.prog Try.f131.ntmps (loopAt ((Try.f131.body).getD .skip) 29) (lp_never ) ∧ True) (by kernel_rfl) ⟨trivial, ⟨trivial, ⟨never_rule , ⟨never_rule , ⟨never_rule , trivial⟩⟩⟩⟩⟩) (by first | trivial | (simp only [NamelessL, Nameless, and_self, and_true, true_and]; done) | (simp [NamelessL, Nameless, u32s_nameless, namelessL_ints]; done)) (by first | trivial | (simp only [NamelessL, Nameless, and_self, and_true, true_and]; done) | (simp [NamelessL, Nameless, u32s_nameless, namelessL_ints]; done)) ?_
  refine of_eq (B := (True ∧ (True ∧ (True ∧ (True ∧ (pcond (Decidable.decide ((0 : Int) ≤ c)) (True ∧ (True ∧ (True ∧ (True ∧ (pcond (Decidable.decide (c < (128 : Int))) (True ∧ (True ∧ (True ∧ (True ∧ (True ∧ (True ∧ (True ∧ ((D.v (Value.int IntKind.i64 (Lib.indexByte (Array.toList (ByteArray.data marks)) (UInt8.ofBitVec (BitVec.ofFin (Fin.mk ((Int.toNat (IntKind.wrap IntKind.u8 c)) % (256 : Nat)) (Nat.mod_lt (Int.toNat (IntKind.wrap IntKind.u8 c)) (BitVec.ofNat._proof_1 (8 : Nat))))))))) = (D.v (Value.int IntKind.i64 (mkI c))))))))))) (True ∧ (True ∧ (True ∧ (pcond (c == (65533 : Int)) (True ∧ (True ∧ (True ∧ (True ∧ (True ∧ (True ∧ (True ∧ (True ∧ (True ∧ (True ∧ (True ∧ (True ∧ (True ∧ (True ∧ (True ∧ (True ∧ (True ∧ (True ∧ (True ∧ (True ∧ (True ∧ (True ∧ (True ∧ (True ∧ (True ∧ (True ∧ (True ∧ (True ∧ (True ∧ (True ∧ (True ∧ (True ∧ (True ∧ (True ∧ (True ∧ (True ∧ (True ∧ (True ∧ (True ∧ (True ∧ (True ∧ (True ∧ (True ∧ (True ∧ (True ∧ (True ∧ (True ∧ (True ∧ ((D.v (Value.int IntKind.i64 (-(1 : Int)))) = (D.v (Value.int IntKind.i64 (mkI c)))))))))))))))))))))))))))))))))))))))))))))))))))) (True ∧ (True ∧ (True ∧ (True ∧ (pcond (!(Utf8.valid c)) (True ∧ (True ∧ (True ∧ ((D.v (Value.int IntKind.i64 (-(1 : Int)))) = (D.v (Value.int IntKind.i64 (mkI c))))))) (True ∧ (True ∧ (True ∧ (True ∧ (True ∧ (True ∧ (True ∧ (True ∧ (True ∧ (True ∧ (True ∧ (True ∧ (True ∧ (True ∧ (pcond (Decidable.decide ((IntKind.wrap IntKind.i64 ((((ByteArray.size (Utf8.encode c)) : Nat) : Int) - (1 : Int))) < (6 : Int))) (True ∧ (True ∧ ((((0 : Int) ≤ (IntKind.wrap IntKind.i64 ((((ByteArray.size (Utf8.encode c)) : Nat) : Int) - (1 : Int)))) ∧ ((IntKind.wrap IntKind.i64 ((((ByteArray.size (Utf8.encode c)) : Nat) : Int) - (1 : Int))) < (6 : Int))) ∧ (True ∧ (True ∧ ((((0 : Int) ≤ (IntKind.wrap IntKind.i64 ((((ByteArray.size (Utf8.encode c)) : Nat) : Int) - (1 : Int)))) ∧ ((IntKind.wrap IntKind.i64 ((((ByteArray.size (Utf8.encode c)) : Nat) : Int) - (1 : Int))) < (((ByteArray.size (Utf8.encode c)) : Nat) : Int))) ∧ (True ∧ ((Bool.true = Bool.true) ∧ (pcond ((((UInt8.toNat (List.getD (Array.toList (ByteArray.data marks)) (Int.toNat (IntKind.wrap IntKind.i64 ((((ByteArray.size (Utf8.encode c)) : Nat) : Int) - (1 : Int)))) (0 : UInt8))) : Nat) : Int) != (((UInt8.toNat (List.getD (Array.toList (ByteArray.data (Utf8.encode c))) (Int.toNat (IntKind.wrap IntKind.i64 ((((ByteArray.size (Utf8.encode c)) : Nat) : Int) - (1 : Int)))) (0 : UInt8))) : Nat) : Int)) (True ∧ (True ∧ (True ∧ (((((0 : Int) ≤ (IntKind.wrap IntKind.i64 ((IntKind.wrap IntKind.i64 ((((ByteArray.size (Utf8.encode c)) : Nat) : Int) - (1 : Int))) + (1 : Int)))) ∧ ((IntKind.wrap IntKind.i64 ((IntKind.wrap IntKind.i64 ((((ByteArray.size (Utf8.encode c)) : Nat) : Int) - (1 : Int))) + (1 : Int))) ≤ (6 : Int))) ∧ (True ∧ True)) ∧ (True ∧ (True ∧ ((((0 : Int) ≤ (IntKind.wrap IntKind.i64 ((((ByteArray.size (Utf8.encode c)) : Nat) : Int) - (1 : Int)))) ∧ ((IntKind.wrap IntKind.i64 ((((ByteArray.size (Utf8.encode c)) : Nat) : Int) - (1 : Int))) < (((ByteArray.size (Utf8.encode c)) : Nat) : Int))) ∧ (True ∧ (True ∧ ((Bool.true = Bool.true) ∧ (True ∧ (True ∧ (pcond (Decidable.decide ((Lib.indexByte (Array.toList (ByteArray.data (ByteArray.extract marks (Int.toNat (IntKind.wrap IntKind.i64 ((IntKind.wrap IntKind.i64 ((((ByteArray.size (Utf8.encode c)) : Nat) : Int) - (1 : Int))) + (1 : Int)))) (6 : Nat)))) (UInt8.ofBitVec (BitVec.ofFin (Fin.mk ((Int.toNat (((UInt8.toNat (List.getD (Array.toList (ByteArray.data (Utf8.encode c))) (Int.toNat (IntKind.wrap IntKind.i64 ((((ByteArray.size (Utf8.encode c)) : Nat) : Int) - (1 : Int)))) (0 : UInt8))) : Nat) : Int)) % (256 : Nat)) (Nat.mod_lt (Int.toNat (((UInt8.toNat (List.getD (Array.toList (ByteArray.data (Utf8.encode c))) (Int.toNat (IntKind.wrap IntKind.i64 ((((ByteArray.size (Utf8.encode c)) : Nat) : Int) - (1 : Int)))) (0 : UInt8))) : Nat) : Int)) (BitVec.ofNat._proof_1 (8 : Nat))))))) < (0 : Int))) (True ∧ (True ∧ (True ∧ ((D.v (Value.int IntKind.i64 (-(1 : Int)))) = (D.v (Value.int IntKind.i64 (mkI c))))))) (True ∧ (True ∧ (True ∧ (True ∧ (True ∧ (True ∧ False))))))))))))))))))) (True ∧ False)))))))))) (True ∧ (True ∧ (True ∧ ((D.v (Value.int IntKind.i64 (-(1 : Int)))) = (D.v (Value.int IntKind.i64 (mkI c)))))))))))))))))))))))))))))))))))) (True ∧ (True ∧ (True ∧ (True ∧ (True ∧ (pcond (c == (65533 : Int)) (True ∧ (True ∧ (True ∧ (True ∧ (True ∧ (True ∧ (True ∧ (True ∧ (True ∧ (True ∧ (True ∧ (True ∧ (True ∧ (True ∧ (True ∧ (True ∧ (True ∧ (True ∧ (True ∧ (True ∧ (True ∧ (True ∧ (True ∧ (True ∧ (True ∧ (True ∧ (True ∧ (True ∧ (True ∧ (True ∧ (True ∧ (True ∧ (True ∧ (True ∧ (True ∧ (True ∧ (True ∧ (True ∧ (True ∧ (True ∧ (True ∧ (True ∧ (True ∧ (True ∧ (True ∧ (True ∧ (True ∧ (True ∧ ((D.v (Value.int IntKind.i64 (-(1 : Int)))) = (D.v (Value.int IntKind.i64 (mkI c)))))))))))))))))))))))))))))))))))))))))))))))))))) (True ∧ (True ∧ (True ∧ (True ∧ (pcond (!(Utf8.valid c)) (True ∧ (True ∧ (True ∧ ((D.v (Value.int IntKind.i64 (-(1 : Int)))) = (D.v (Value.int IntKind.i64 (mkI c))))))) (True ∧ (True ∧ (True ∧ (True ∧ (True ∧ (True ∧ (True ∧ (True ∧ (True ∧ (True ∧ (True ∧ (True ∧ (True ∧ (True ∧ (pcond (Decidable.decide ((IntKind.wrap IntKind.i64 ((((ByteArray.size (Utf8.encode c)) : Nat) : Int) - (1 : Int))) < (6 : Int))) (True ∧ (True ∧ ((((0 : Int) ≤ (IntKind.wrap IntKind.i64 ((((ByteArray.size (Utf8.encode c)) : Nat) : Int) - (1 : Int)))) ∧ ((IntKind.wrap IntKind.i64 ((((ByteArray.size (Utf8.encode c)) : Nat) : Int) - (1 : Int))) < (6 : Int))) ∧ (True ∧ (True ∧ ((((0 : Int) ≤ (IntKind.wrap IntKind.i64 ((((ByteArray.size (Utf8.encode c)) : Nat) : Int) - (1 : Int)))) ∧ ((IntKind.wrap IntKind.i64 ((((ByteArray.size (Utf8.encode c)) : Nat) : Int) - (1 : Int))) < (((ByteArray.size (Utf8.encode c)) : Nat) : Int))) ∧ (True ∧ ((Bool.true = Bool.true) ∧ (pcond ((((UInt8.toNat (List.getD (Array.toList (ByteArray.data marks)) (Int.toNat (IntKind.wrap IntKind.i64 ((((ByteArray.size (Utf8.encode c)) : Nat) : Int) - (1 : Int)))) (0 : UInt8))) : Nat) : Int) != (((UInt8.toNat (List.getD (Array.toList (ByteArray.data (Utf8.encode c))) (Int.toNat (IntKind.wrap IntKind.i64 ((((ByteArray.size (Utf8.encode c)) : Nat) : Int) - (1 : Int)))) (0 : UInt8))) : Nat) : Int)) (True ∧ (True ∧ (True ∧ (((((0 : Int) ≤ (IntKind.wrap IntKind.i64 ((IntKind.wrap IntKind.i64 ((((ByteArray.size (Utf8.encode c)) : Nat) : Int) - (1 : Int))) + (1 : Int)))) ∧ ((IntKind.wrap IntKind.i64 ((IntKind.wrap IntKind.i64 ((((ByteArray.size (Utf8.encode c)) : Nat) : Int) - (1 : Int))) + (1 : Int))) ≤ (6 : Int))) ∧ (True ∧ True)) ∧ (True ∧ (True ∧ ((((0 : Int) ≤ (IntKind.wrap IntKind.i64 ((((ByteArray.size (Utf8.encode c)) : Nat) : Int) - (1 : Int)))) ∧ ((IntKind.wrap IntKind.i64 ((((ByteArray.size (Utf8.encode c)) : Nat) : Int) - (1 : Int))) < (((ByteArray.size (Utf8.encode c)) : Nat) : Int))) ∧ (True ∧ (True ∧ ((Bool.true = Bool.true) ∧ (True ∧ (True ∧ (pcond (Decidable.decide ((Lib.indexByte (Array.toList (ByteArray.data (ByteArray.extract marks (Int.toNat (IntKind.wrap IntKind.i64 ((IntKind.wrap IntKind.i64 ((((ByteArray.size (Utf8.encode c)) : Nat) : Int) - (1 : Int))) + (1 : Int)))) (6 : Nat)))) (UInt8.ofBitVec (BitVec.ofFin (Fin.mk ((Int.toNat (((UInt8.toNat (List.getD (Array.toList (ByteArray.data (Utf8.encode c))) (Int.toNat (IntKind.wrap IntKind.i64 ((((ByteArray.size (Utf8.encode c)) : Nat) : Int) - (1 : Int)))) (0 : UInt8))) : Nat) : Int)) % (256 : Nat)) (Nat.mod_lt (Int.toNat (((UInt8.toNat (List.getD (Array.toList (ByteArray.data (Utf8.encode c))) (Int.toNat (IntKind.wrap IntKind.i64 ((((ByteArray.size (Utf8.encode c)) : Nat) : Int) - (1 : Int)))) (0 : UInt8))) : Nat) : Int)) (BitVec.ofNat._proof_1 (8 : Nat))))))) < (0 : Int))) (True ∧ (True ∧ (True ∧ ((D.v (Value.int IntKind.i64 (-(1 : Int)))) = (D.v (Value.int IntKind.i64 (mkI c))))))) (True ∧ (True ∧ (True ∧ (True ∧ (True ∧ (True ∧ False))))))))))))))))))) (True ∧ False)))))))))) (True ∧ (True ∧ (True ∧ ((D.v (Value.int IntKind.i64 (-(1 : Int)))) = (D.v (Value.int IntKind.i64 (mkI c))))))))))))))))))))))))))))))))))))))) (by kernel_rfl) ?_
  simp only [true_and, and_true, and_self, IsInt_lit, IsBool_lit, IsStr_lit, Bool.not_eq_true', Bool.not_eq_false', Bool.not_true, Bool.not_false, Int.reduceLE, Int.reduceLT, Int.reduceNeg, Nat.le_refl, Int.le_refl, Nat.reduceLT, Nat.reduceLeDiff, Nat.reduceEqDiff, D.v.injEq, D.tup.injEq, D.agg.injEq, D.ro.injEq, List.cons.injEq, Value.int.injEq, Value.bool.injEq, pcond_true, pcond_false, NamelessL, Nameless, Nat.reduceMul, Nat.reduceAdd, Nat.zero_add, Int.toNat_natCast]
  obtain ⟨h0, h1⟩ := hpre
  rw [decide_eq_true h0, pcond_true]
  have hw : c < 128 → IntKind.u8.wrap c = c := fun h => by rw [wrap_u8]; omega
  refine pcond_intro (fun h => ?_) (fun h => ?_)
  · simp only [decide_eq_true_eq] at h
    rw [mkI, if_pos h, hw h]
    rfl
  · simp only [decide_eq_false_iff_not] at h
    rw [mkI, if_neg h]
    refine pcond_intro (fun _ => rfl) (fun _ => pcond_intro (fun _ => rfl) (fun hv => ?_))
    simp only [Bool.not_eq_false'] at hv
    obtain ⟨n1, n2, nb⟩ := enc_high (by omega) hv
    generalize Utf8.encode c = t at *
    have w1 : IntKind.i64.wrap ((t.size : Int) - 1) = ((t.size - 1 : Nat) : Int) := by rw [wrap_i64_of (by omega) (by omega)]; omega
    have w2 : IntKind.i64.wrap (((t.size - 1 : Nat) : Int) + 1) = ((t.size : Nat) : Int) := by rw [wrap_i64_of (by omega) (by omega)]; omega
    have hb := nb (t.size - 1) (by omega)
    simp only [w1, w2, Int.toNat_natCast]
    refine pcond_intro (fun h2 => ⟨⟨by omega, by omega⟩, ⟨by omega, by omega⟩, pcond_intro (fun h3 => ⟨⟨by omega, by omega⟩, ⟨by omega, by omega⟩, pcond_intro (fun _ => trivial) (fun h4 => ?_)⟩) (fun h3 => ?_)⟩) (fun _ => trivial)
    · simp only [decide_eq_false_iff_not] at h4
      refine h4 ?_
      have hm : ∀ x ∈ (marks.extract t.size 6).data.toList, x.toNat < 128 := by
        have : t.size = 2 ∨ t.size = 3 ∨ t.size = 4 := by omega
        rcases this with e | e | e <;> rw [e] <;> decide
      rw [idx_none _ _ fun x hx e => ?_]
      · decide
      · have h7 := hm x hx
        rw [e] at h7
        have h8 : (t.data.toList.getD (t.size - 1) 0).toNat % 256 < 128 := h7
        have h9 := (t.data.toList.getD (t.size - 1) 0).toNat_lt
        omega
    · have h5 : (marks.data.toList.getD (t.size - 1) 0).toNat = (t.data.toList.getD (t.size - 1) 0).toNat := by
        simp only [bne_eq_false_iff_eq] at h3; omega
      have h6 : (marks.data.toList.getD (t.size - 1) 0).toNat < 128 := by
        have : t.size - 1 = 1 ∨ t.size - 1 = 2 ∨ t.size - 1 = 3 := by omega
        rcases this with e | e | e <;> rw [e] <;> decide
      omega
def ent_iRune : Ent := fun ds => match ds with
  | [.v (.string m), .v (.int .i32 c)] => some (.v (.int .i64 (mkI c)), m = marks ∧ 0 ≤ c ∧ c < 2147483648)
  | _ => none
theorem ent_iRune_ok : EntOk Try.prog 131 ent_iRune := by
  intro ds d c h hc; unfold ent_iRune at h; split at h
  · obtain ⟨rfl, rfl⟩ := pair_inj h
    obtain ⟨rfl, hc⟩ := hc
    exact iRune_pure _ hc
  · cases h
theorem cRune_pure (c : Int) (hpre : 0 ≤ c ∧ c < 2147483648) : PureJ Try.prog 118 [.v (.string marks), .v (.int .i32 c)] (.v (.bool (decide (0 ≤ mkI c)))) := by
  refine pureJ_of_vcx (call := (addPure 131 ent_iRune noCalls)) (lp := fun _ => none) (N := 10) T_ok mixed (addPure_ok ent_iRune_ok noCalls_ok) Try.func118 rfl (by decide) (by kernel_rfl) (by kernel_rfl) (LpAll.none _) (by first | trivial | (simp only [NamelessL, Nameless, and_self, and_true, true_and]; done) | (simp [NamelessL, Nameless, u32s_nameless, namelessL_ints]; done)) (by first | trivial | (simp only [NamelessL, Nameless, and_self, and_true, true_and]; done) | (simp [NamelessL, Nameless, u32s_nameless, namelessL_ints]; done)) ?_
  refine of_eq (B := (True ∧ (True ∧ (True ∧ (((marks = marks) ∧ (((0 : Int) ≤ c) ∧ (c < (2147483648 : Int)))) ∧ (True ∧ (True ∧ (True ∧ (True ∧ ((D.v (Value.bool (Decidable.decide ((0 : Int) ≤ (mkI c))))) = (D.v (Value.bool (Decidable.decide ((0 : Int) ≤ (mkI c))))))))))))))) (by kernel_rfl) ?_
  simp only [true_and, and_true, and_self, IsInt_lit, IsBool_lit, IsStr_lit, Bool.not_eq_true', Bool.not_eq_false', Bool.not_true, Bool.not_false, Int.reduceLE, Int.reduceLT, Int.reduceNeg, Nat.le_refl, Int.le_refl, Nat.reduceLT, Nat.reduceLeDiff, Nat.reduceEqDiff, D.v.injEq, D.tup.injEq, D.agg.injEq, D.ro.injEq, List.cons.injEq, Value.int.injEq, Value.bool.injEq, pcond_true, pcond_false, NamelessL, Nameless, Nat.reduceMul, Nat.reduceAdd, Nat.zero_add, Int.toNat_natCast]
  exact hpre
def ent_cRune : Ent := fun ds => match ds with
  | [.v (.string m), .v (.int .i32 c)] => some (.v (.bool (decide (0 ≤ mkI c))), m = marks ∧ 0 ≤ c ∧ c < 2147483648)
  | _ => none
theorem ent_cRune_ok : EntOk Try.prog 118 ent_cRune := by
  intro ds d c h hc; unfold ent_cRune at h; split at h
  · obtain ⟨rfl, rfl⟩ := pair_inj h
    obtain ⟨rfl, hc⟩ := hc
    exact cRune_pure _ hc
  · cases h
def letI' (c : Int) : Bool := (decide (65 ≤ c) && decide (c ≤ 90)) || (decide (97 ≤ c) && decide (c ≤ 122))
theorem isLetter_pure (c : Int) : PureJ Try.prog 117 [.v (.int .i32 c)] (.v (.bool (letI' c))) := by
  refine pureJ_of_vcx (call := noCalls) (lp := fun _ => none) (N := 10) T_ok mixed noCalls_ok Try.func117 rfl (by decide) (by kernel_rfl) (by kernel_rfl) (LpAll.none _) (by first | trivial | (simp only [NamelessL, Nameless, and_self, and_true, true_and]; done) | (simp [NamelessL, Nameless, u32s_nameless, namelessL_ints]; done)) (by first | trivial | (simp only [NamelessL, Nameless, and_self, and_true, true_and]; done) | (simp [NamelessL, Nameless, u32s_nameless, namelessL_ints]; done)) ?_
  refine of_eq (B := (True ∧ (True ∧ (True ∧ (True ∧ (pcond (Decidable.decide ((65 : Int) ≤ c)) (True ∧ (True ∧ (True ∧ (True ∧ (pcond (Decidable.decide (c ≤ (90 : Int))) ((([] : List Value) = ([] : List Value)) ∧ ((([] : List Value) = ([] : List Value)) ∧ (True ∧ (True ∧ (True ∧ (True ∧ ((D.v (Value.bool Bool.true)) = (D.v (Value.bool (letI' c)))))))))) (True ∧ (True ∧ (True ∧ (pcond (Decidable.decide ((97 : Int) ≤ c)) (True ∧ (True ∧ (True ∧ (True ∧ (True ∧ (True ∧ (True ∧ ((D.v (Value.bool (Decidable.decide (c ≤ (122 : Int))))) = (D.v (Value.bool (letI' c))))))))))) (True ∧ (True ∧ (True ∧ (True ∧ (True ∧ ((D.v (Value.bool Bool.false)) = (D.v (Value.bool (letI' c)))))))))))))))))) (True ∧ (True ∧ (True ∧ (True ∧ (True ∧ (pcond (Decidable.decide ((97 : Int) ≤ c)) (True ∧ (True ∧ (True ∧ (True ∧ (True ∧ (True ∧ (True ∧ ((D.v (Value.bool (Decidable.decide (c ≤ (122 : Int))))) = (D.v (Value.bool (letI' c))))))))))) (True ∧ (True ∧ (True ∧ (True ∧ (True ∧ ((D.v (Value.bool Bool.false)) = (D.v (Value.bool (letI' c))))))))))))))))))))) (by kernel_rfl) ?_
  simp only [true_and, and_true, and_self, IsInt_lit, IsBool_lit, IsStr_lit, Bool.not_eq_true', Bool.not_eq_false', Bool.not_true, Bool.not_false, Int.reduceLE, Int.reduceLT, Int.reduceNeg, Nat.le_refl, Int.le_refl, Nat.reduceLT, Nat.reduceLeDiff, Nat.reduceEqDiff, D.v.injEq, D.tup.injEq, D.agg.injEq, D.ro.injEq, List.cons.injEq, Value.int.injEq, Value.bool.injEq, pcond_true, pcond_false, NamelessL, Nameless, Nat.reduceMul, Nat.reduceAdd, Nat.zero_add, Int.toNat_natCast]
  unfold letI'
  cases decide (65 ≤ c) <;> cases decide (c ≤ 90) <;> cases decide (97 ≤ c) <;> cases decide (c ≤ 122) <;> simp [pcond]
def ent_isLetter : Ent := fun ds => match ds with
  | [.v (.int .i32 c)] => some (.v (.bool (letI' c)), True)
  | _ => none
theorem ent_isLetter_ok : EntOk Try.prog 117 ent_isLetter := by
  intro ds d c h hc; unfold ent_isLetter at h; split at h
  · obtain ⟨rfl, rfl⟩ := pair_inj h; exact isLetter_pure _
  · cases h
theorem isPlain_pure (c : Int) (hpre : 0 ≤ c ∧ c < 2147483648) : PureJ Try.prog 83 [.v (.int .i32 c)] (.v (.bool (letI' c || ((decide (48 ≤ c) && decide (c ≤ 57)) || decide (0 ≤ mkI c))))) := by
  refine pureJ_of_vcx (call := (addPure 117 ent_isLetter (addPure 81 ent_isDigit (addPure 118 ent_cRune noCalls)))) (lp := fun _ => none) (N := 10) T_ok mixed (addPure_ok ent_isLetter_ok (addPure_ok ent_isDigit_ok (addPure_ok ent_cRune_ok noCalls_ok))) Try.func83 rfl (by decide) (by kernel_rfl) (by kernel_rfl) (LpAll.none _) (by first | trivial | (simp only [NamelessL, Nameless, and_self, and_true, true_and]; done) | (simp [NamelessL, Nameless, u32s_nameless, namelessL_ints]; done)) (by first | trivial | (simp only [NamelessL, Nameless, and_self, and_true, true_and]; done) | (simp [NamelessL, Nameless, u32s_nameless, namelessL_ints]; done)) ?_
  refine of_eq (B := (True ∧ (True ∧ (True ∧ (True ∧ (pcond (letI' c) (True ∧ (True ∧ (True ∧ (True ∧ (True ∧ (True ∧ ((D.v (Value.bool Bool.true)) = (D.v (Value.bool ((letI' c) || (((Decidable.decide ((48 : Int) ≤ c)) && (Decidable.decide (c ≤ (57 : Int)))) || (Decidable.decide ((0 : Int) ≤ (mkI c)))))))))))))) (True ∧ (True ∧ (True ∧ (True ∧ (pcond ((Decidable.decide ((48 : Int) ≤ c)) && (Decidable.decide (c ≤ (57 : Int)))) (True ∧ (True ∧ (True ∧ (True ∧ ((D.v (Value.bool Bool.true)) = (D.v (Value.bool ((letI' c) || (((Decidable.decide ((48 : Int) ≤ c)) && (Decidable.decide (c ≤ (57 : Int)))) || (Decidable.decide ((0 : Int) ≤ (mkI c)))))))))))) (True ∧ ((((ByteArray.mk (Array.mk [(95 : UInt8), (45 : UInt8), (43 : UInt8), (46 : UInt8), (47 : UInt8), (58 : UInt8)])) = marks) ∧ (((0 : Int) ≤ c) ∧ (c < (2147483648 : Int)))) ∧ (True ∧ (True ∧ (True ∧ (True ∧ ((D.v (Value.bool (Decidable.decide ((0 : Int) ≤ (mkI c))))) = (D.v (Value.bool ((letI' c) || (((Decidable.decide ((48 : Int) ≤ c)) && (Decidable.decide (c ≤ (57 : Int)))) || (Decidable.decide ((0 : Int) ≤ (mkI c))))))))))))))))))))))))) (by kernel_rfl) ?_
  simp only [true_and, and_true, and_self, IsInt_lit, IsBool_lit, IsStr_lit, Bool.not_eq_true', Bool.not_eq_false', Bool.not_true, Bool.not_false, Int.reduceLE, Int.reduceLT, Int.reduceNeg, Nat.le_refl, Int.le_refl, Nat.reduceLT, Nat.reduceLeDiff, Nat.reduceEqDiff, D.v.injEq, D.tup.injEq, D.agg.injEq, D.ro.injEq, List.cons.injEq, Value.int.injEq, Value.bool.injEq, pcond_true, pcond_false, NamelessL, Nameless, Nat.reduceMul, Nat.reduceAdd, Nat.zero_add, Int.toNat_natCast]
  generalize letI' c = a
  cases a <;> cases decide (48 ≤ c) <;> cases decide (c ≤ 57) <;> simp [pcond, hpre, marks]
def ent_isPlain : Ent := fun ds => match ds with
  | [.v (.int .i32 c)] => some (.v (.bool (letI' c || ((decide (48 ≤ c) && decide (c ≤ 57)) || decide (0 ≤ mkI c)))), 0 ≤ c ∧ c < 2147483648)
  | _ => none
theorem ent_isPlain_ok : EntOk Try.prog 83 ent_isPlain := by
  intro ds d c h hc; unfold ent_isPlain at h; split at h
  · obtain ⟨rfl, rfl⟩ := pair_inj h; exact isPlain_pure _ hc
  · cases h
end Go.Proofs.Ythnhfkpihbjddaa
