/- The program's words: numbers. -/
import Derived.Test.YthnhfkpihbjddaaYf
namespace Go.Proofs.Ythnhfkpihbjddaa
open Go.VD
set_option linter.unusedVariables false
set_option linter.unusedSimpArgs false
set_option maxRecDepth 100000

def hasQ (s p : ByteArray) : Bool := decide (p.size ≤ s.size) && ((s.extract 0 p.size).toList == p.toList)
theorem hasPrefixQ_pure (s p : ByteArray) : PureJ Try.prog 130 [.v (.string s), .v (.string p)] (.v (.bool (hasQ s p))) := by
  refine pureJ_of_vcx (call := noCalls) (lp := fun _ => none) (N := 10) T_ok mixed noCalls_ok Try.func130 rfl (by decide) (by kernel_rfl) (by kernel_rfl) (LpAll.none _) (by first | trivial | (simp only [NamelessL, Nameless, and_self, and_true, true_and]; done) | (simp [NamelessL, Nameless, u32s_nameless, namelessL_ints]; done)) (by first | trivial | (simp only [NamelessL, Nameless, and_self, and_true, true_and]; done) | (simp [NamelessL, Nameless, u32s_nameless, namelessL_ints]; done)) ?_
  refine of_eq (B := (True ∧ (True ∧ (True ∧ (True ∧ (True ∧ (True ∧ (True ∧ (pcond (Decidable.decide ((((ByteArray.size p) : Nat) : Int) ≤ (((ByteArray.size s) : Nat) : Int))) (True ∧ (True ∧ (True ∧ ((True ∧ ((((0 : Int) ≤ (((ByteArray.size p) : Nat) : Int)) ∧ ((((ByteArray.size p) : Nat) : Int) ≤ (((ByteArray.size s) : Nat) : Int))) ∧ True)) ∧ (True ∧ (True ∧ (True ∧ (True ∧ (True ∧ (True ∧ ((D.v (Value.bool ((ByteArray.toList (ByteArray.extract s (0 : Nat) (Int.toNat (((ByteArray.size p) : Nat) : Int)))) == (ByteArray.toList p)))) = (D.v (Value.bool (hasQ s p)))))))))))))) (True ∧ (True ∧ (True ∧ (True ∧ ((D.v (Value.bool Bool.false)) = (D.v (Value.bool (hasQ s p))))))))))))))))) (by kernel_rfl) ?_
  simp only [true_and, and_true, and_self, IsInt_lit, IsBool_lit, IsStr_lit, Bool.not_eq_true', Bool.not_eq_false', Bool.not_true, Bool.not_false, Int.reduceLE, Int.reduceLT, Int.reduceNeg, Nat.le_refl, Int.le_refl, Nat.reduceLT, Nat.reduceLeDiff, Nat.reduceEqDiff, D.v.injEq, D.tup.injEq, D.agg.injEq, D.ro.injEq, List.cons.injEq, Value.int.injEq, Value.bool.injEq, pcond_true, pcond_false, NamelessL, Nameless, Nat.reduceMul, Nat.reduceAdd, Nat.zero_add, Int.toNat_natCast]
  unfold hasQ
  refine pcond_intro (fun h => ?_) (fun h => ?_)
  · simp only [decide_eq_true_eq] at h
    rw [decide_eq_true (show p.size ≤ s.size by omega), Bool.true_and]
    exact ⟨by omega, rfl⟩
  · simp only [decide_eq_false_iff_not] at h
    rw [decide_eq_false (show ¬ p.size ≤ s.size by omega), Bool.false_and]
def ent_hasPrefixQ : Ent := fun ds => match ds with
  | [.v (.string s), .v (.string p)] => some (.v (.bool (hasQ s p)), True)
  | _ => none
theorem ent_hasPrefixQ_ok : EntOk Try.prog 130 ent_hasPrefixQ := by
  intro ds d c h hc; unfold ent_hasPrefixQ at h; split at h
  · obtain ⟨rfl, rfl⟩ := pair_inj h; exact hasPrefixQ_pure _ _
  · cases h
theorem cutPrefixP_pure (s p : ByteArray) : PureJ Try.prog 116 [.v (.string s), .v (.string p)] (.tup [.v (.string (bif hasQ s p then s.extract p.size s.size else s)), .v (.bool (hasQ s p))]) := by
  refine pureJ_of_vcx (call := (addPure 130 ent_hasPrefixQ noCalls)) (lp := fun _ => none) (N := 10) T_ok mixed (addPure_ok ent_hasPrefixQ_ok noCalls_ok) Try.func116 rfl (by decide) (by kernel_rfl) (by kernel_rfl) (LpAll.none _) (by first | trivial | (simp only [NamelessL, Nameless, and_self, and_true, true_and]; done) | (simp [NamelessL, Nameless, u32s_nameless, namelessL_ints]; done)) (by first | trivial | (simp only [NamelessL, Nameless, and_self, and_true, true_and]; done) | (simp [NamelessL, Nameless, u32s_nameless, namelessL_ints]; done)) ?_
  refine of_eq (B := (True ∧ (True ∧ (True ∧ (True ∧ (True ∧ (True ∧ (pcond (!(hasQ s p)) (True ∧ (True ∧ (True ∧ (True ∧ ((True ∧ (True ∧ True)) ∧ ((D.tup [(D.v (Value.string s)), (D.v (Value.bool Bool.false))]) = (D.tup [(D.v (Value.string (cond (hasQ s p) (ByteArray.extract s (ByteArray.size p) (ByteArray.size s)) s))), (D.v (Value.bool (hasQ s p)))]))))))) (True ∧ (True ∧ (True ∧ (((((0 : Int) ≤ (((ByteArray.size p) : Nat) : Int)) ∧ ((((ByteArray.size p) : Nat) : Int) ≤ (((ByteArray.size s) : Nat) : Int))) ∧ (True ∧ True)) ∧ (True ∧ (True ∧ (True ∧ ((True ∧ (True ∧ True)) ∧ ((D.tup [(D.v (Value.string (ByteArray.extract s (Int.toNat (((ByteArray.size p) : Nat) : Int)) (ByteArray.size s)))), (D.v (Value.bool Bool.true))]) = (D.tup [(D.v (Value.string (cond (hasQ s p) (ByteArray.extract s (ByteArray.size p) (ByteArray.size s)) s))), (D.v (Value.bool (hasQ s p)))])))))))))))))))))) (by kernel_rfl) ?_
  simp only [true_and, and_true, and_self, IsInt_lit, IsBool_lit, IsStr_lit, Bool.not_eq_true', Bool.not_eq_false', Bool.not_true, Bool.not_false, Int.reduceLE, Int.reduceLT, Int.reduceNeg, Nat.le_refl, Int.le_refl, Nat.reduceLT, Nat.reduceLeDiff, Nat.reduceEqDiff, D.v.injEq, D.tup.injEq, D.agg.injEq, D.ro.injEq, List.cons.injEq, Value.int.injEq, Value.bool.injEq, pcond_true, pcond_false, NamelessL, Nameless, Nat.reduceMul, Nat.reduceAdd, Nat.zero_add, Int.toNat_natCast]
  refine pcond_intro (fun h => ?_) (fun h => ?_)
  · simp only [Bool.not_eq_true'] at h; simp [h]
  · simp only [Bool.not_eq_false'] at h
    have : p.size ≤ s.size := by unfold hasQ at h; simp at h; exact h.1
    simp [h]; omega
def ent_cutPrefixP : Ent := fun ds => match ds with
  | [.v (.string s), .v (.string p)] => some (.tup [.v (.string (bif hasQ s p then s.extract p.size s.size else s)), .v (.bool (hasQ s p))], True)
  | _ => none
theorem ent_cutPrefixP_ok : EntOk Try.prog 116 ent_cutPrefixP := by
  intro ds d c h hc; unfold ent_cutPrefixP at h; split at h
  · obtain ⟨rfl, rfl⟩ := pair_inj h; exact cutPrefixP_pure _ _
  · cases h
theorem cutPrefixQ_pure (s p : ByteArray) : PureJ Try.prog 79 [.v (.string s), .v (.string p)] (.tup [.v (.string (bif hasQ s p then s.extract p.size s.size else s)), .v (.bool (hasQ s p))]) := by
  refine pureJ_of_vcx (call := (addPure 116 ent_cutPrefixP noCalls)) (lp := fun _ => none) (N := 10) T_ok mixed (addPure_ok ent_cutPrefixP_ok noCalls_ok) Try.func79 rfl (by decide) (by kernel_rfl) (by kernel_rfl) (LpAll.none _) (by first | trivial | (simp only [NamelessL, Nameless, and_self, and_true, true_and]; done) | (simp [NamelessL, Nameless, u32s_nameless, namelessL_ints]; done)) (by first | trivial | (simp only [NamelessL, Nameless, and_self, and_true, true_and]; done) | (simp [NamelessL, Nameless, u32s_nameless, namelessL_ints]; done)) ?_
  refine of_eq (B := (True ∧ (True ∧ (True ∧ (True ∧ (True ∧ (True ∧ (True ∧ (True ∧ (True ∧ (True ∧ ((True ∧ (True ∧ True)) ∧ ((D.tup [(D.v (Value.string (cond (hasQ s p) (ByteArray.extract s (ByteArray.size p) (ByteArray.size s)) s))), (D.v (Value.bool (hasQ s p)))]) = (D.tup [(D.v (Value.string (cond (hasQ s p) (ByteArray.extract s (ByteArray.size p) (ByteArray.size s)) s))), (D.v (Value.bool (hasQ s p)))])))))))))))))) (by kernel_rfl) ?_
  simp only [true_and, and_true, and_self, IsInt_lit, IsBool_lit, IsStr_lit, Bool.not_eq_true', Bool.not_eq_false', Bool.not_true, Bool.not_false, Int.reduceLE, Int.reduceLT, Int.reduceNeg, Nat.le_refl, Int.le_refl, Nat.reduceLT, Nat.reduceLeDiff, Nat.reduceEqDiff, D.v.injEq, D.tup.injEq, D.agg.injEq, D.ro.injEq, List.cons.injEq, Value.int.injEq, Value.bool.injEq, pcond_true, pcond_false, NamelessL, Nameless, Nat.reduceMul, Nat.reduceAdd, Nat.zero_add, Int.toNat_natCast]
def ent_cutPrefixQ : Ent := fun ds => match ds with
  | [.v (.string s), .v (.string p)] => some (.tup [.v (.string (bif hasQ s p then s.extract p.size s.size else s)), .v (.bool (hasQ s p))], True)
  | _ => none
theorem ent_cutPrefixQ_ok : EntOk Try.prog 79 ent_cutPrefixQ := by
  intro ds d c h hc; unfold ent_cutPrefixQ at h; split at h
  · obtain ⟨rfl, rfl⟩ := pair_inj h; exact cutPrefixQ_pure _ _
  · cases h
def dash : ByteArray := ⟨#[45]⟩
def dcV (t : ByteArray) : Nat → Int
  | 0 => 0
  | i + 1 => 10 * dcV t i + ((bt t i : Int) - 48)
theorem dcV_bd {t : ByteArray} : ∀ i, (∀ j, j < i → digB (bt t j) = true) → 0 ≤ dcV t i ∧ dcV t i + 1 ≤ 10 ^ i
  | 0, _ => by simp [dcV]
  | i + 1, h => by
    obtain ⟨h1, h2⟩ := dcV_bd i fun j hj => h j (by omega)
    have h3 := h i (by omega)
    unfold digB at h3
    simp only [Bool.and_eq_true, decide_eq_true_eq] at h3
    simp only [dcV, Int.pow_succ]
    omega
def numT (s : ByteArray) : ByteArray := bif hasQ s dash then s.extract 1 s.size else s
def numG (s : ByteArray) : Bool := hasQ s dash
def lp_numLoop (s : ByteArray) : LoopO := loopRule (α := Nat) (β := Unit) [some 0] (fun i => ((i ≤ (numT s).size ∧ (numT s).size ≤ 7) ∧ ∀ j, j < (numT s).size → digB (bt (numT s) j) = true)) (fun i => [(5, .v (.bool (numG s))), (6, .v (.int .i64 (dcV (numT s) i))), (36, .ptr 0 0)]) (fun i => [some ⟨itTy, [.v (.string (numT s)), .v (.int .i64 (i : Int))], true⟩]) (0) (fun _ => True) (fun _ => (.exit 0, [(5, .v (.bool (numG s))), (6, .v (.int .i64 (dcV (numT s) (numT s).size)))], []))
theorem numLoop_rule (s : ByteArray) (hpre : True) : LRuleP Try.prog Try.f44.ntmps (loopAt ((Try.f44.body).getD .skip) 8) (lp_numLoop s) := by
  refine lrule_of (α := Nat) (β := Unit) (call := noCalls) (lp := fun _ => none) (N := 10) T_ok mixed noCalls_ok (fun i => (numT s).size - i) (by kernel_rfl) (LpAllP.none _) ?_
  intro x hJ
  refine of_eq (B := (pcond (Decidable.decide ((Int.toNat ((x : Nat) : Int)) < (ByteArray.size (numT s)))) (True ∧ (True ∧ (True ∧ (True ∧ (True ∧ (True ∧ (True ∧ (True ∧ (True ∧ (True ∧ (∃ (y : Nat), (∃ (kp : (List (Option Nat))), ((((ByteArray.size (numT s)) - y) < ((ByteArray.size (numT s)) - x)) ∧ ((((y ≤ (ByteArray.size (numT s))) ∧ ((ByteArray.size (numT s)) ≤ (7 : Nat))) ∧ (∀ (j : Nat), ((j < (ByteArray.size (numT s))) → ((digB (bt (numT s) j)) = Bool.true)))) ∧ (viewAll kp [(Prod.mk (5 : Nat) (D.v (Value.bool (numG s)))), (Prod.mk (6 : Nat) (D.v (Value.int IntKind.i64 (IntKind.wrap IntKind.i64 ((IntKind.wrap IntKind.i64 ((10 : Int) * (dcV (numT s) x))) + (IntKind.wrap IntKind.i64 (IntKind.wrap IntKind.i32 ((((Prod.fst (Utf8.decode (numT s) (Int.toNat ((x : Nat) : Int)))) : Nat) : Int) - (48 : Int))))))))), (Prod.mk (36 : Nat) (D.ptr (0 : Nat) (0 : Nat)))] [(Option.some (Blk.mk (1000000007 : Nat) [(D.v (Value.string (numT s))), (D.v (Value.int IntKind.i64 ((((Int.toNat ((x : Nat) : Int)) + (Prod.snd (Utf8.decode (numT s) (Int.toNat ((x : Nat) : Int))))) : Nat) : Int)))] Bool.true))] [(Prod.mk (5 : Nat) (D.v (Value.bool (numG s)))), (Prod.mk (6 : Nat) (D.v (Value.int IntKind.i64 (dcV (numT s) y)))), (Prod.mk (36 : Nat) (D.ptr (0 : Nat) (0 : Nat)))] [(Option.some (Blk.mk itTy [(D.v (Value.string (numT s))), (D.v (Value.int IntKind.i64 ((y : Nat) : Int)))] Bool.true))]))))))))))))))) (True ∧ (∃ (r : Unit), (∃ (kp : (List (Option Nat))), (True ∧ (((Exit.exit (0 : Nat)) = (Exit.exit (0 : Nat))) ∧ (viewAll kp [(Prod.mk (5 : Nat) (D.v (Value.bool (numG s)))), (Prod.mk (6 : Nat) (D.v (Value.int IntKind.i64 (dcV (numT s) x))))] [(Option.some (Blk.mk (1000000007 : Nat) [(D.v (Value.string (numT s))), (D.v (Value.int IntKind.i64 ((x : Nat) : Int)))] Bool.true))] (Prod.fst (Prod.snd ((fun (x_1 : Unit) => (Prod.mk (Exit.exit (0 : Nat)) (Prod.mk [(Prod.mk (5 : Nat) (D.v (Value.bool (numG s)))), (Prod.mk (6 : Nat) (D.v (Value.int IntKind.i64 (dcV (numT s) (ByteArray.size (numT s))))))] ([] : List (Option Blk))))) r))) (Prod.snd (Prod.snd ((fun (x_1 : Unit) => (Prod.mk (Exit.exit (0 : Nat)) (Prod.mk [(Prod.mk (5 : Nat) (D.v (Value.bool (numG s)))), (Prod.mk (6 : Nat) (D.v (Value.int IntKind.i64 (dcV (numT s) (ByteArray.size (numT s))))))] ([] : List (Option Blk))))) r))))))))))) (by kernel_rfl) ?_
  simp only [true_and, and_true, and_self, IsInt_lit, IsBool_lit, IsStr_lit, Bool.not_eq_true', Bool.not_eq_false', Bool.not_true, Bool.not_false, Int.reduceLE, Int.reduceLT, Int.reduceNeg, Nat.le_refl, Int.le_refl, Nat.reduceLT, Nat.reduceLeDiff, Nat.reduceEqDiff, D.v.injEq, D.tup.injEq, D.agg.injEq, D.ro.injEq, List.cons.injEq, Value.int.injEq, Value.bool.injEq, pcond_true, pcond_false, NamelessL, Nameless, Nat.reduceMul, Nat.reduceAdd, Nat.zero_add, Int.toNat_natCast] at *
  obtain ⟨⟨hx, h7⟩, hall⟩ := hJ
  generalize numT s = t at *
  generalize numG s = neg at *
  refine pcond_intro (fun h => ⟨x + 1, [some 0], ?_, ⟨⟨?_, h7⟩, hall⟩, ?_⟩) (fun h => ⟨(), [], ?_⟩)
  · simp only [decide_eq_true_eq] at h; omega
  · simp only [decide_eq_true_eq] at h; omega
  · simp only [decide_eq_true_eq] at h
    have h1 := hall x h
    obtain ⟨b1, b2⟩ := dcV_bd (t := t) x fun j hj => hall j (by omega)
    have b3 : (10 : Int) ^ x ≤ 10000000 := by
      have : x = 0 ∨ x = 1 ∨ x = 2 ∨ x = 3 ∨ x = 4 ∨ x = 5 ∨ x = 6 := by omega
      rcases this with e | e | e | e | e | e | e <;> rw [e] <;> decide
    have hlt := digB_lt _ h1
    rw [dec_ascii hlt]
    unfold digB at h1
    simp only [Bool.and_eq_true, decide_eq_true_eq] at h1
    have e1 : IntKind.i32.wrap (((bt t x : Nat) : Int) - 48) = ((bt t x : Nat) : Int) - 48 := by rw [IntKind.wrap_i32]; omega
    have e2 : IntKind.i64.wrap (IntKind.i64.wrap (10 * dcV t x) + IntKind.i64.wrap (((bt t x : Nat) : Int) - 48)) = dcV t (x + 1) := by
      rw [wrap_i64_of (n := 10 * dcV t x) (by omega) (by omega), wrap_i64_of (n := ((bt t x : Nat) : Int) - 48) (by omega) (by omega), wrap_i64_of (by omega) (by omega)]
      rfl
    simp only [e1, e2]
    refine of_eq (B := ((Bool.true = Bool.true) ∧ (((((Option.some (Blk.mk (1000000007 : Nat) [(D.v (Value.string t)), (D.v (Value.int IntKind.i64 (((x + (1 : Nat)) : Nat) : Int)))] Bool.true)) = (Option.some (Blk.mk (1000000007 : Nat) [(D.v (Value.string t)), (D.v (Value.int IntKind.i64 (((x + (1 : Nat)) : Nat) : Int)))] Bool.true))) ∧ (NamelessL [(D.v (Value.string t)), (D.v (Value.int IntKind.i64 (((x + (1 : Nat)) : Nat) : Int)))])) ∧ (([] : List (Option Blk)) = ([] : List (Option Blk)))) ∧ ((True ∧ ((D.v (Value.bool neg)) = (D.v (Value.bool neg)))) ∧ ((True ∧ ((D.v (Value.int IntKind.i64 (dcV t (x + (1 : Nat))))) = (D.v (Value.int IntKind.i64 (dcV t (x + (1 : Nat))))))) ∧ ((True ∧ ((D.ptr (0 : Nat) (0 : Nat)) = (D.ptr (0 : Nat) (0 : Nat)))) ∧ True)))))) (by kernel_rfl) ?_
    simp [NamelessL, Nameless]
  · simp only [decide_eq_false_iff_not] at h
    have : x = t.size := by omega
    subst this
    refine of_eq (B := ((Bool.true = Bool.true) ∧ ((([] : List (Option Blk)) = ([] : List (Option Blk))) ∧ ((True ∧ ((D.v (Value.bool neg)) = (D.v (Value.bool neg)))) ∧ ((True ∧ ((D.v (Value.int IntKind.i64 (dcV t (ByteArray.size t)))) = (D.v (Value.int IntKind.i64 (dcV t (ByteArray.size t)))))) ∧ True))))) (by kernel_rfl) ?_
    simp
def numOk (s : ByteArray) : Bool := decide (0 < (numT s).size) && (decide ((numT s).size ≤ 7) && (decide (spN digB (numT s) = (numT s).size) && !(decide (bt (numT s) 0 = 48) && !(s.toList == [48]))))
def numV (s : ByteArray) : Int := bif numG s then -(dcV (numT s) (numT s).size) else dcV (numT s) (numT s).size
theorem numT_size (s : ByteArray) : (numT s).size ≤ s.size := by
  unfold numT
  cases hasQ s dash
  · exact Nat.le_refl _
  · simp only [cond_true, ByteArray.size_extract]; omega
theorem spN_le (p : Nat → Bool) (s : ByteArray) : spN p s ≤ s.size := by
  unfold spN; rw [size_list]; exact List.findIdx_le_length
theorem spN_eq {p : Nat → Bool} {s : ByteArray} (h : spN p s = s.size) : ∀ i, i < s.size → p (bt s i) = true := by
  intro i hi
  have hl : i < s.data.toList.length := by rw [← size_list]; exact hi
  have := List.not_of_lt_findIdx (p := fun b : UInt8 => !p b.toNat) (xs := s.data.toList) (i := i) (by unfold spN at h; rw [h]; exact hi)
  rw [bt_get hl]
  simpa using this
theorem hNumber_pure (s : ByteArray) (hpre : s.size ≤ 9223372036854775807) : PureJ Try.prog 44 [.v (.string s)] (.tup [.v (.int .i64 (bif numOk s then numV s else 0)), .v (.bool (numOk s))]) := by
  refine pureJ_of_vcp (call := (addPure 79 ent_cutPrefixQ (addPure 80 ent_spanD noCalls))) (lp := fun k => bif Nat.beq k 8 then some (lp_numLoop s) else none) (N := 10) T_ok mixed (addPure_ok ent_cutPrefixQ_ok (addPure_ok ent_spanD_ok noCalls_ok)) Try.func44 rfl (by decide) (by kernel_rfl) (by kernel_rfl) (of_eq (B := LRuleP Try.prog Try.f44.ntmps (loopAt ((Try.f44.body).getD .skip) 8) (lp_numLoop s) ∧ True) (by kernel_rfl) ⟨numLoop_rule s trivial, trivial⟩) (by first | trivial | (simp only [NamelessL, Nameless, and_self, and_true, true_and]; done) | (simp [NamelessL, Nameless, u32s_nameless, namelessL_ints]; done)) (by first | trivial | (simp only [NamelessL, Nameless, and_self, and_true, true_and]; done) | (simp [NamelessL, Nameless, u32s_nameless, namelessL_ints]; done)) ?_
  refine of_eq (B := (True ∧ (True ∧ (True ∧ (True ∧ (True ∧ (True ∧ (True ∧ (True ∧ (True ∧ (True ∧ (True ∧ (True ∧ (pcond ((ByteArray.toList (cond (hasQ s (ByteArray.mk (Array.mk [(45 : UInt8)]))) (ByteArray.extract s (1 : Nat) (ByteArray.size s)) s)) == ([] : List UInt8)) (True ∧ (True ∧ (True ∧ (True ∧ (True ∧ (True ∧ ((True ∧ (True ∧ True)) ∧ ((D.tup [(D.v (Value.int IntKind.i64 (0 : Int))), (D.v (Value.bool Bool.false))]) = (D.tup [(D.v (Value.int IntKind.i64 (cond (numOk s) (numV s) (0 : Int)))), (D.v (Value.bool (numOk s)))]))))))))) (True ∧ (True ∧ (True ∧ (True ∧ (True ∧ (pcond (Decidable.decide ((7 : Int) < (((ByteArray.size (cond (hasQ s (ByteArray.mk (Array.mk [(45 : UInt8)]))) (ByteArray.extract s (1 : Nat) (ByteArray.size s)) s)) : Nat) : Int))) (True ∧ (True ∧ (True ∧ (True ∧ ((True ∧ (True ∧ True)) ∧ ((D.tup [(D.v (Value.int IntKind.i64 (0 : Int))), (D.v (Value.bool Bool.false))]) = (D.tup [(D.v (Value.int IntKind.i64 (cond (numOk s) (numV s) (0 : Int)))), (D.v (Value.bool (numOk s)))]))))))) (True ∧ (((ByteArray.size (cond (hasQ s (ByteArray.mk (Array.mk [(45 : UInt8)]))) (ByteArray.extract s (1 : Nat) (ByteArray.size s)) s)) ≤ (9223372036854775807 : Nat)) ∧ (True ∧ (True ∧ (True ∧ (True ∧ (pcond (Decidable.decide ((((spN digB (cond (hasQ s (ByteArray.mk (Array.mk [(45 : UInt8)]))) (ByteArray.extract s (1 : Nat) (ByteArray.size s)) s)) : Nat) : Int) < (((ByteArray.size (cond (hasQ s (ByteArray.mk (Array.mk [(45 : UInt8)]))) (ByteArray.extract s (1 : Nat) (ByteArray.size s)) s)) : Nat) : Int))) (True ∧ (True ∧ (True ∧ ((True ∧ (True ∧ True)) ∧ ((D.tup [(D.v (Value.int IntKind.i64 (0 : Int))), (D.v (Value.bool Bool.false))]) = (D.tup [(D.v (Value.int IntKind.i64 (cond (numOk s) (numV s) (0 : Int)))), (D.v (Value.bool (numOk s)))])))))) (True ∧ ((((0 : Int) ≤ (0 : Int)) ∧ ((0 : Int) < (((ByteArray.size (cond (hasQ s (ByteArray.mk (Array.mk [(45 : UInt8)]))) (ByteArray.extract s (1 : Nat) (ByteArray.size s)) s)) : Nat) : Int))) ∧ (True ∧ (True ∧ (pcond ((((UInt8.toNat (List.getD (Array.toList (ByteArray.data (cond (hasQ s (ByteArray.mk (Array.mk [(45 : UInt8)]))) (ByteArray.extract s (1 : Nat) (ByteArray.size s)) s))) (0 : Nat) (0 : UInt8))) : Nat) : Int) == (48 : Int)) (True ∧ (True ∧ (True ∧ (pcond (!((ByteArray.toList s) == [(UInt8.ofBitVec (BitVec.ofFin (Fin.mk (48 : Nat) (Nat.mod_lt 48 (BitVec.ofNat._proof_1 (8 : Nat))))))])) (True ∧ (True ∧ (True ∧ ((True ∧ (True ∧ True)) ∧ ((D.tup [(D.v (Value.int IntKind.i64 (0 : Int))), (D.v (Value.bool Bool.false))]) = (D.tup [(D.v (Value.int IntKind.i64 (cond (numOk s) (numV s) (0 : Int)))), (D.v (Value.bool (numOk s)))])))))) (True ∧ (True ∧ (True ∧ (((((0 : Nat) ≤ (ByteArray.size (numT s))) ∧ ((ByteArray.size (numT s)) ≤ (7 : Nat))) ∧ (∀ (j : Nat), ((j < (ByteArray.size (numT s))) → ((digB (bt (numT s) j)) = Bool.true)))) ∧ (((Bool.true = Bool.true) ∧ (((((Option.some (Blk.mk (1000000007 : Nat) [(D.v (Value.string (numT s))), (D.v (Value.int IntKind.i64 (0 : Int)))] Bool.true)) = (Option.some (Blk.mk (1000000007 : Nat) [(D.v (Value.string (cond (hasQ s (ByteArray.mk (Array.mk [(45 : UInt8)]))) (ByteArray.extract s (1 : Nat) (ByteArray.size s)) s))), (D.v (Value.int IntKind.i64 (0 : Int)))] Bool.true))) ∧ (NamelessL [(D.v (Value.string (cond (hasQ s (ByteArray.mk (Array.mk [(45 : UInt8)]))) (ByteArray.extract s (1 : Nat) (ByteArray.size s)) s))), (D.v (Value.int IntKind.i64 (0 : Int)))])) ∧ (([] : List (Option Blk)) = ([] : List (Option Blk)))) ∧ ((True ∧ ((D.v (Value.bool (hasQ s (ByteArray.mk (Array.mk [(45 : UInt8)]))))) = (D.v (Value.bool (numG s))))) ∧ ((True ∧ ((D.v (Value.int IntKind.i64 (0 : Int))) = (D.v (Value.int IntKind.i64 (dcV (numT s) (0 : Nat)))))) ∧ ((True ∧ ((D.ptr (0 : Nat) (0 : Nat)) = (D.ptr (0 : Nat) (0 : Nat)))) ∧ True))))) ∧ (Unit → (True → (True ∧ (pcond (numG s) (True ∧ (True ∧ (True ∧ (True ∧ (True ∧ (True ∧ (True ∧ ((True ∧ (True ∧ True)) ∧ ((D.tup [(D.v (Value.int IntKind.i64 (IntKind.wrap IntKind.i64 ((0 : Int) - (dcV (numT s) (ByteArray.size (numT s))))))), (D.v (Value.bool Bool.true))]) = (D.tup [(D.v (Value.int IntKind.i64 (cond (numOk s) (numV s) (0 : Int)))), (D.v (Value.bool (numOk s)))])))))))))) (True ∧ (True ∧ (True ∧ (True ∧ ((True ∧ (True ∧ True)) ∧ ((D.tup [(D.v (Value.int IntKind.i64 (dcV (numT s) (ByteArray.size (numT s))))), (D.v (Value.bool Bool.true))]) = (D.tup [(D.v (Value.int IntKind.i64 (cond (numOk s) (numV s) (0 : Int)))), (D.v (Value.bool (numOk s)))])))))))))))))))))))) (True ∧ (True ∧ (True ∧ (True ∧ (((((0 : Nat) ≤ (ByteArray.size (numT s))) ∧ ((ByteArray.size (numT s)) ≤ (7 : Nat))) ∧ (∀ (j : Nat), ((j < (ByteArray.size (numT s))) → ((digB (bt (numT s) j)) = Bool.true)))) ∧ (((Bool.true = Bool.true) ∧ (((((Option.some (Blk.mk (1000000007 : Nat) [(D.v (Value.string (numT s))), (D.v (Value.int IntKind.i64 (0 : Int)))] Bool.true)) = (Option.some (Blk.mk (1000000007 : Nat) [(D.v (Value.string (cond (hasQ s (ByteArray.mk (Array.mk [(45 : UInt8)]))) (ByteArray.extract s (1 : Nat) (ByteArray.size s)) s))), (D.v (Value.int IntKind.i64 (0 : Int)))] Bool.true))) ∧ (NamelessL [(D.v (Value.string (cond (hasQ s (ByteArray.mk (Array.mk [(45 : UInt8)]))) (ByteArray.extract s (1 : Nat) (ByteArray.size s)) s))), (D.v (Value.int IntKind.i64 (0 : Int)))])) ∧ (([] : List (Option Blk)) = ([] : List (Option Blk)))) ∧ ((True ∧ ((D.v (Value.bool (hasQ s (ByteArray.mk (Array.mk [(45 : UInt8)]))))) = (D.v (Value.bool (numG s))))) ∧ ((True ∧ ((D.v (Value.int IntKind.i64 (0 : Int))) = (D.v (Value.int IntKind.i64 (dcV (numT s) (0 : Nat)))))) ∧ ((True ∧ ((D.ptr (0 : Nat) (0 : Nat)) = (D.ptr (0 : Nat) (0 : Nat)))) ∧ True))))) ∧ (Unit → (True → (True ∧ (pcond (numG s) (True ∧ (True ∧ (True ∧ (True ∧ (True ∧ (True ∧ (True ∧ ((True ∧ (True ∧ True)) ∧ ((D.tup [(D.v (Value.int IntKind.i64 (IntKind.wrap IntKind.i64 ((0 : Int) - (dcV (numT s) (ByteArray.size (numT s))))))), (D.v (Value.bool Bool.true))]) = (D.tup [(D.v (Value.int IntKind.i64 (cond (numOk s) (numV s) (0 : Int)))), (D.v (Value.bool (numOk s)))])))))))))) (True ∧ (True ∧ (True ∧ (True ∧ ((True ∧ (True ∧ True)) ∧ ((D.tup [(D.v (Value.int IntKind.i64 (dcV (numT s) (ByteArray.size (numT s))))), (D.v (Value.bool Bool.true))]) = (D.tup [(D.v (Value.int IntKind.i64 (cond (numOk s) (numV s) (0 : Int)))), (D.v (Value.bool (numOk s)))]))))))))))))))))))))))))))))))))))))))))))))))))) (by kernel_rfl) ?_
  simp only [true_and, and_true, and_self, IsInt_lit, IsBool_lit, IsStr_lit, Bool.not_eq_true', Bool.not_eq_false', Bool.not_true, Bool.not_false, Int.reduceLE, Int.reduceLT, Int.reduceNeg, Nat.le_refl, Int.le_refl, Nat.reduceLT, Nat.reduceLeDiff, Nat.reduceEqDiff, D.v.injEq, D.tup.injEq, D.agg.injEq, D.ro.injEq, List.cons.injEq, Value.int.injEq, Value.bool.injEq, pcond_true, pcond_false, NamelessL, Nameless, Nat.reduceMul, Nat.reduceAdd, Nat.zero_add, Int.toNat_natCast]
  have hT : (bif numG s then s.extract 1 s.size else s) = numT s := rfl
  have hG : hasQ s ⟨⟨[45]⟩⟩ = numG s := rfl
  simp only [hG, hT]
  have ht := numT_size s
  have bad : numOk s = false → (0 = bif numOk s then numV s else 0) ∧ false = numOk s := fun e => by rw [e]; exact ⟨rfl, rfl⟩
  rw [empty_dec]
  refine pcond_intro (fun h1 => bad ?_) (fun h1 => pcond_intro (fun h2 => bad ?_) (fun h2 => ⟨by omega, pcond_intro (fun h3 => bad ?_) (fun h3 => ⟨?_, ?_⟩)⟩))
  · simp only [decide_eq_true_eq] at h1
    unfold numOk; rw [decide_eq_false (show ¬ 0 < (numT s).size by omega), Bool.false_and]
  · simp only [decide_eq_true_eq] at h2
    unfold numOk; rw [decide_eq_false (show ¬ (numT s).size ≤ 7 by omega), Bool.false_and, Bool.and_false]
  · simp only [decide_eq_true_eq] at h3
    unfold numOk; rw [decide_eq_false (show ¬ spN digB (numT s) = (numT s).size by omega), Bool.false_and, Bool.and_false, Bool.and_false]
  · simp only [decide_eq_false_iff_not] at h1; omega
  · simp only [decide_eq_false_iff_not] at h1 h2 h3
    have hle := spN_le digB (numT s)
    have hsp : spN digB (numT s) = (numT s).size := by omega
    have hok : numOk s = !(decide (bt (numT s) 0 = 48) && !(s.toList == [48])) := by
      unfold numOk
      rw [decide_eq_true (show 0 < (numT s).size by omega), decide_eq_true (show (numT s).size ≤ 7 by omega), decide_eq_true hsp, Bool.true_and, Bool.true_and, Bool.true_and]
    have hall := spN_eq hsp
    obtain ⟨b1, b2⟩ := dcV_bd (t := numT s) (numT s).size hall
    have b3 : (10 : Int) ^ (numT s).size ≤ 10000000 := by
      have : (numT s).size = 1 ∨ (numT s).size = 2 ∨ (numT s).size = 3 ∨ (numT s).size = 4 ∨ (numT s).size = 5 ∨ (numT s).size = 6 ∨ (numT s).size = 7 := by omega
      rcases this with e | e | e | e | e | e | e <;> rw [e] <;> decide
    have good : numOk s = true → pcond (numG s) ((IntKind.i64.wrap (0 - dcV (numT s) (numT s).size) = bif numOk s then numV s else 0) ∧ true = numOk s) ((dcV (numT s) (numT s).size = bif numOk s then numV s else 0) ∧ true = numOk s) := fun e => by
      rw [e]
      unfold numV
      refine pcond_intro (fun hg => ?_) (fun hg => ?_)
      · rw [hg, wrap_i64_of (by omega) (by omega)]
        exact ⟨by simp only [cond_true]; omega, rfl⟩
      · rw [hg]; exact ⟨rfl, rfl⟩
    refine pcond_intro (fun h4 => pcond_intro (fun h5 => bad ?_) (fun h5 => ⟨⟨⟨by omega, by omega⟩, hall⟩, ⟨trivial, trivial, rfl⟩, fun _ _ => good ?_⟩)) (fun h4 => ⟨⟨⟨by omega, by omega⟩, hall⟩, ⟨trivial, trivial, rfl⟩, fun _ _ => good ?_⟩)
    · have h4 : bt (numT s) 0 = 48 := by simp only [beq_iff_eq] at h4; unfold bt; omega
      have h5 : (s.toList == [48]) = false := by simpa using h5
      rw [hok, h5, decide_eq_true h4]; rfl
    · have h5 : (s.toList == [48]) = true := by simpa using h5
      rw [hok, h5]; simp
    · have h4 : ¬ bt (numT s) 0 = 48 := by
        simp only [beq_eq_false_iff_ne, ne_eq] at h4; unfold bt; omega
      rw [hok, decide_eq_false h4]; rfl
def ent_hNumber : Ent := fun ds => match ds with
  | [.v (.string s)] => some (.tup [.v (.int .i64 (bif numOk s then numV s else 0)), .v (.bool (numOk s))], s.size ≤ 9223372036854775807)
  | _ => none
theorem ent_hNumber_ok : EntOk Try.prog 44 ent_hNumber := by
  intro ds d c h hc; unfold ent_hNumber at h; split at h
  · obtain ⟨rfl, rfl⟩ := pair_inj h; exact hNumber_pure _ hc
  · cases h
end Go.Proofs.Ythnhfkpihbjddaa
