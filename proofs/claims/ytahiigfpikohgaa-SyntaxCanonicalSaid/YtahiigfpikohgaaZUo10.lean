import Derived.Test.YtahiigfpikohgaaZUo9
import Derived.Laws.Strings
import Derived.Test.YtahiigfpikohgaaZUo8
import Derived.Test.YtahiigfpikohgaaZUo7
section
namespace Go.Proofs.Ytahiigfpikohgaa
open Go.VD
set_option linter.unusedVariables false
set_option linter.unusedSimpArgs false
set_option maxRecDepth 100000
def letB (n : Nat) : Bool := (decide (65 ≤ n) && decide (n ≤ 90)) || (decide (97 ≤ n) && decide (n ≤ 122))
def markB (n : Nat) : Bool := decide (n = 95) || (decide (n = 45) || (decide (n = 43) || (decide (n = 46) || (decide (n = 47) || decide (n = 58)))))
def plB (n : Nat) : Bool := letB n || (digB n || markB n)
theorem mark_low : ∀ n : Fin 128, decide (0 ≤ mkI ((n.val : Nat) : Int)) = markB n.val := by decide
theorem mark_int (n : Nat) : decide (0 ≤ mkI (n : Int)) = markB n := by
  by_cases h : n < 128
  · exact mark_low ⟨n, h⟩
  · have e1 : mkI (n : Int) = -1 := by unfold mkI; rw [if_neg (by omega)]
    rw [e1]
    unfold markB
    rw [Bool.eq_iff_iff]; simp; omega
theorem let_int (n : Nat) : letI' (n : Int) = letB n := by
  unfold letI' letB
  rw [Bool.eq_iff_iff]; simp; omega
theorem plB_lt (n : Nat) (h : plB n = true) : n < 128 := by
  unfold plB letB digB markB at h; simp at h; omega
def lp_spanPLoop (s : ByteArray) : LoopO := loopRule2 (α := Nat) (β := Unit) (γ := Nat) [some 0] (fun n => n ≤ s.size ∧ ∀ i, i < n → plB (bt s i) = true) (fun n => [(0, .v (.string s)), (1, .fn 47 0 []), (8, .ptr 0 0)]) (fun n => [some ⟨itTy, [.v (.string s), .v (.int .i64 (n : Int))], true⟩]) (0) (fun _ => ∀ i, i < s.size → plB (bt s i) = true) (fun _ => (.exit 0, [(0, .v (.string s))], [])) (fun n => n < s.size ∧ plB (bt s n) = false ∧ ∀ i, i < n → plB (bt s i) = true) (fun n => (.ret, [(4, .v (.int .i64 (n : Int)))], []))
theorem spanPLoop_rule (s : ByteArray) (hpre : s.size ≤ 9223372036854775807) : LRuleP Try.prog Try.f36.ntmps (loopAt ((Try.f36.body).getD .skip) 2) (lp_spanPLoop s) := by
  refine lrule_of2 (α := Nat) (β := Unit) (γ := Nat) (call := (addPure 47 ent_isPlain noCalls)) (lp := fun _ => none) (N := 10) T_ok mixed (addPure_ok ent_isPlain_ok noCalls_ok) (fun n => s.size - n) (by kernel_rfl) (LpAllP.none _) ?_
  intro x hJ
  refine of_eq (B := (pcond (Decidable.decide ((Int.toNat ((x : Nat) : Int)) < (ByteArray.size s))) (True ∧ (True ∧ (True ∧ (True ∧ (True ∧ (True ∧ (True ∧ ((((0 : Int) ≤ (((Prod.fst (Utf8.decode s (Int.toNat ((x : Nat) : Int)))) : Nat) : Int)) ∧ ((((Prod.fst (Utf8.decode s (Int.toNat ((x : Nat) : Int)))) : Nat) : Int) < (2147483648 : Int))) ∧ (True ∧ (pcond (!((letI' (((Prod.fst (Utf8.decode s (Int.toNat ((x : Nat) : Int)))) : Nat) : Int)) || (((Decidable.decide ((48 : Int) ≤ (((Prod.fst (Utf8.decode s (Int.toNat ((x : Nat) : Int)))) : Nat) : Int))) && (Decidable.decide ((((Prod.fst (Utf8.decode s (Int.toNat ((x : Nat) : Int)))) : Nat) : Int) ≤ (57 : Int)))) || (Decidable.decide ((0 : Int) ≤ (mkI (((Prod.fst (Utf8.decode s (Int.toNat ((x : Nat) : Int)))) : Nat) : Int))))))) (True ∧ (True ∧ ((∃ (r : Unit), (∃ (kp : (List (Option Nat))), ((∀ (i : Nat), ((i < (ByteArray.size s)) → ((plB (bt s i)) = Bool.true))) ∧ ((Exit.ret = (Exit.exit (0 : Nat))) ∧ (viewAll kp [(Prod.mk (0 : Nat) (D.v (Value.string s)))] [(Option.some (Blk.mk (1000000007 : Nat) [(D.v (Value.string s)), (D.v (Value.int IntKind.i64 ((((Int.toNat ((x : Nat) : Int)) + (Prod.snd (Utf8.decode s (Int.toNat ((x : Nat) : Int))))) : Nat) : Int)))] Bool.true))] (Prod.fst (Prod.snd ((fun (x_1 : Unit) => (Prod.mk (Exit.exit (0 : Nat)) (Prod.mk [(Prod.mk (0 : Nat) (D.v (Value.string s)))] ([] : List (Option Blk))))) r))) (Prod.snd (Prod.snd ((fun (x_1 : Unit) => (Prod.mk (Exit.exit (0 : Nat)) (Prod.mk [(Prod.mk (0 : Nat) (D.v (Value.string s)))] ([] : List (Option Blk))))) r)))))))) ∨ (∃ (r : Nat), (∃ (kp : (List (Option Nat))), (((r < (ByteArray.size s)) ∧ (((plB (bt s r)) = Bool.false) ∧ (∀ (i : Nat), ((i < r) → ((plB (bt s i)) = Bool.true))))) ∧ ((Exit.ret = Exit.ret) ∧ (viewAll kp [(Prod.mk (4 : Nat) (D.v (Value.int IntKind.i64 ((x : Nat) : Int))))] [(Option.some (Blk.mk (1000000007 : Nat) [(D.v (Value.string s)), (D.v (Value.int IntKind.i64 ((((Int.toNat ((x : Nat) : Int)) + (Prod.snd (Utf8.decode s (Int.toNat ((x : Nat) : Int))))) : Nat) : Int)))] Bool.true))] (Prod.fst (Prod.snd ((fun (n : Nat) => (Prod.mk Exit.ret (Prod.mk [(Prod.mk (4 : Nat) (D.v (Value.int IntKind.i64 ((n : Nat) : Int))))] ([] : List (Option Blk))))) r))) (Prod.snd (Prod.snd ((fun (n : Nat) => (Prod.mk Exit.ret (Prod.mk [(Prod.mk (4 : Nat) (D.v (Value.int IntKind.i64 ((n : Nat) : Int))))] ([] : List (Option Blk))))) r))))))))))) (∃ (y : Nat), (∃ (kp : (List (Option Nat))), ((((ByteArray.size s) - y) < ((ByteArray.size s) - x)) ∧ (((y ≤ (ByteArray.size s)) ∧ (∀ (i : Nat), ((i < y) → ((plB (bt s i)) = Bool.true)))) ∧ (viewAll kp [(Prod.mk (0 : Nat) (D.v (Value.string s))), (Prod.mk (1 : Nat) (D.fn (47 : Nat) (0 : Nat) ([] : List D))), (Prod.mk (8 : Nat) (D.ptr (0 : Nat) (0 : Nat)))] [(Option.some (Blk.mk (1000000007 : Nat) [(D.v (Value.string s)), (D.v (Value.int IntKind.i64 ((((Int.toNat ((x : Nat) : Int)) + (Prod.snd (Utf8.decode s (Int.toNat ((x : Nat) : Int))))) : Nat) : Int)))] Bool.true))] [(Prod.mk (0 : Nat) (D.v (Value.string s))), (Prod.mk (1 : Nat) (D.fn (47 : FuncId) (0 : Nat) ([] : List D))), (Prod.mk (8 : Nat) (D.ptr (0 : Nat) (0 : Nat)))] [(Option.some (Blk.mk itTy [(D.v (Value.string s)), (D.v (Value.int IntKind.i64 ((y : Nat) : Int)))] Bool.true))]))))))))))))))) (True ∧ ((∃ (r : Unit), (∃ (kp : (List (Option Nat))), ((∀ (i : Nat), ((i < (ByteArray.size s)) → ((plB (bt s i)) = Bool.true))) ∧ (((Exit.exit (0 : Nat)) = (Exit.exit (0 : Nat))) ∧ (viewAll kp [(Prod.mk (0 : Nat) (D.v (Value.string s)))] [(Option.some (Blk.mk (1000000007 : Nat) [(D.v (Value.string s)), (D.v (Value.int IntKind.i64 ((x : Nat) : Int)))] Bool.true))] (Prod.fst (Prod.snd ((fun (x_1 : Unit) => (Prod.mk (Exit.exit (0 : Nat)) (Prod.mk [(Prod.mk (0 : Nat) (D.v (Value.string s)))] ([] : List (Option Blk))))) r))) (Prod.snd (Prod.snd ((fun (x_1 : Unit) => (Prod.mk (Exit.exit (0 : Nat)) (Prod.mk [(Prod.mk (0 : Nat) (D.v (Value.string s)))] ([] : List (Option Blk))))) r)))))))) ∨ (∃ (r : Nat), (∃ (kp : (List (Option Nat))), (((r < (ByteArray.size s)) ∧ (((plB (bt s r)) = Bool.false) ∧ (∀ (i : Nat), ((i < r) → ((plB (bt s i)) = Bool.true))))) ∧ (((Exit.exit (0 : Nat)) = Exit.ret) ∧ (viewAll kp ([] : List (Prod Nat D)) [(Option.some (Blk.mk (1000000007 : Nat) [(D.v (Value.string s)), (D.v (Value.int IntKind.i64 ((x : Nat) : Int)))] Bool.true))] (Prod.fst (Prod.snd ((fun (n : Nat) => (Prod.mk Exit.ret (Prod.mk [(Prod.mk (4 : Nat) (D.v (Value.int IntKind.i64 ((n : Nat) : Int))))] ([] : List (Option Blk))))) r))) (Prod.snd (Prod.snd ((fun (n : Nat) => (Prod.mk Exit.ret (Prod.mk [(Prod.mk (4 : Nat) (D.v (Value.int IntKind.i64 ((n : Nat) : Int))))] ([] : List (Option Blk))))) r)))))))))))) (by kernel_rfl) ?_
  simp only [true_and, and_true, and_self, IsInt_lit, IsBool_lit, IsStr_lit, IsSl_lit, cellN_lit, cellL_lit, Bool.not_eq_true', Bool.not_eq_false', Bool.not_true, Bool.not_false, Int.reduceLE, Int.reduceLT, Int.reduceNeg, Nat.le_refl, Int.le_refl, Nat.reduceLT, Nat.reduceLeDiff, Nat.reduceEqDiff, D.v.injEq, D.tup.injEq, D.agg.injEq, D.ro.injEq, List.cons.injEq, Value.int.injEq, Value.bool.injEq, pcond_true, pcond_false, NamelessL, Nameless, Nat.reduceMul, Nat.reduceAdd, Nat.zero_add, Int.toNat_natCast] at *
  obtain ⟨hx, hall⟩ := hJ
  obtain ⟨p1, p2⟩ := dec_pred plB_lt s x
  have hd : 0 ≤ (((Utf8.decode s x).1 : Nat) : Int) ∧ (((Utf8.decode s x).1 : Nat) : Int) < 2147483648 := by
    refine ⟨Int.natCast_nonneg _, ?_⟩
    by_cases h : bt s x < 128
    · rw [dec_ascii h]; simp only; omega
    · have := (dec_high (show 128 ≤ bt s x by omega) (bt_lt s x)).2; omega
  rw [let_int, digB_int, mark_int]
  rw [show (letB (Utf8.decode s x).1 || (digB (Utf8.decode s x).1 || markB (Utf8.decode s x).1)) = plB (bt s x) from p1]
  refine pcond_intro (fun h => ⟨hd, ?_⟩) (fun h => .inl ⟨(), [], ?_, ?_⟩)
  · simp only [decide_eq_true_eq] at h
    refine pcond_intro (fun h1 => .inr ⟨x, [], ⟨h, by simpa using h1, hall⟩, ?_⟩) (fun h1 => ⟨x + 1, [some 0], by omega, ⟨by omega, fun i hi => ?_⟩, ?_⟩)
    · refine of_eq (B := letI z0 := (D.v (Value.int IntKind.i64 ((x : Nat) : Int))); letI z1 := ([] : List (Option Blk)); ((Bool.true = Bool.true) ∧ ((z1 = z1) ∧ ((True ∧ (z0 = z0)) ∧ True)))) (by kernel_rfl) ?_
      simp
    · rcases Nat.lt_or_ge i x with h2 | h2
      · exact hall i h2
      · rw [show i = x by omega]; simpa using h1
    · have h1 : plB (bt s x) = true := by simpa using h1
      rw [p2 h1]
      refine of_eq (B := letI z2 := (D.v (Value.string s)); letI z1 := (D.v (Value.int IntKind.i64 (((x + (1 : Nat)) : Nat) : Int))); letI z0 := (Option.some (Blk.mk (1000000007 : Nat) [z2, z1] Bool.true)); letI z3 := (D.fn (47 : Nat) (0 : Nat) ([] : List D)); letI z4 := (D.ptr (0 : Nat) (0 : Nat)); letI z5 := ([] : List (Option Blk)); ((Bool.true = Bool.true) ∧ ((((z0 = z0) ∧ (NamelessL [z2, z1])) ∧ (z5 = z5)) ∧ ((True ∧ (z2 = z2)) ∧ ((True ∧ (z3 = z3)) ∧ ((True ∧ (z4 = z4)) ∧ True)))))) (by kernel_rfl) ?_
      simp [NamelessL, Nameless]
  · simp only [decide_eq_false_iff_not] at h
    intro i hi
    exact hall i (by omega)
  · refine of_eq (B := letI z0 := ([] : List (Option Blk)); letI z1 := (D.v (Value.string s)); ((Bool.true = Bool.true) ∧ ((z0 = z0) ∧ ((True ∧ (z1 = z1)) ∧ True)))) (by kernel_rfl) ?_
    simp
theorem spanP_pure (s : ByteArray) (hpre : s.size ≤ 9223372036854775807) : PureJ Try.prog 36 [.v (.string s), .fn 47 0 []] (.v (.int .i64 (spN plB s : Nat))) := by
  refine pureJ_of_vcp (call := noCalls) (lp := fun k => bif Nat.beq k 2 then some (lp_spanPLoop s) else none) (N := 10) T_ok mixed noCalls_ok Try.func36 rfl (by decide) (by kernel_rfl) (by kernel_rfl) (of_eq (B := LRuleP Try.prog Try.f36.ntmps (loopAt ((Try.f36.body).getD .skip) 2) (lp_spanPLoop s) ∧ True) (by kernel_rfl) ⟨spanPLoop_rule s hpre, trivial⟩) (by first | trivial | (simp only [NamelessL, Nameless, and_self, and_true, true_and]; done) | (simp [NamelessL, Nameless, u32s_nameless, namelessL_ints]; done)) (by first | trivial | (simp only [NamelessL, Nameless, and_self, and_true, true_and]; done) | (simp [NamelessL, Nameless, u32s_nameless, namelessL_ints]; done)) ?_
  refine of_eq (B := letI z1 := (D.v (Value.string s)); letI z5 := (D.v (Value.int IntKind.i64 (0 : Int))); letI z0 := (Option.some (Blk.mk (1000000007 : Nat) [z1, z5] Bool.true)); letI z2 := (D.v (Value.int IntKind.i64 (((spN plB s) : Nat) : Int))); letI z3 := ByteArray.size s; letI z4 := (D.fn (47 : Nat) (0 : Nat) ([] : List D)); letI z6 := (D.ptr (0 : Nat) (0 : Nat)); letI z7 := ([] : List (Option Blk)); (True ∧ (True ∧ (True ∧ ((((0 : Nat) ≤ z3) ∧ (∀ (i : Nat), ((i < (0 : Nat)) → ((plB (bt s i)) = Bool.true)))) ∧ (((Bool.true = Bool.true) ∧ ((((z0 = z0) ∧ (NamelessL [z1, z5])) ∧ (z7 = z7)) ∧ ((True ∧ (z1 = z1)) ∧ ((True ∧ (z4 = z4)) ∧ ((True ∧ (z6 = z6)) ∧ True))))) ∧ ((Unit → ((∀ (i : Nat), ((i < z3) → ((plB (bt s i)) = Bool.true))) → (True ∧ (True ∧ (True ∧ (True ∧ (True ∧ ((D.v (Value.int IntKind.i64 ((z3 : Nat) : Int))) = z2)))))))) ∧ (∀ (r : Nat), (((r < z3) ∧ (((plB (bt s r)) = Bool.false) ∧ (∀ (i : Nat), ((i < r) → ((plB (bt s i)) = Bool.true))))) → (True ∧ (True ∧ ((D.v (Value.int IntKind.i64 ((r : Nat) : Int))) = z2)))))))))))) (by kernel_rfl) ?_
  simp only [true_and, and_true, and_self, IsInt_lit, IsBool_lit, IsStr_lit, IsSl_lit, cellN_lit, cellL_lit, Bool.not_eq_true', Bool.not_eq_false', Bool.not_true, Bool.not_false, Int.reduceLE, Int.reduceLT, Int.reduceNeg, Nat.le_refl, Int.le_refl, Nat.reduceLT, Nat.reduceLeDiff, Nat.reduceEqDiff, D.v.injEq, D.tup.injEq, D.agg.injEq, D.ro.injEq, List.cons.injEq, Value.int.injEq, Value.bool.injEq, pcond_true, pcond_false, NamelessL, Nameless, Nat.reduceMul, Nat.reduceAdd, Nat.zero_add, Int.toNat_natCast]
  refine ⟨⟨Nat.zero_le _, fun i h => absurd h (Nat.not_lt_zero _)⟩, fun _ h => by rw [spN_all h], fun r h => by rw [spN_at h.1 h.2.1 h.2.2]⟩
def ent_spanP : Ent := fun ds => match ds with
  | [.v (.string s), .fn 47 0 []] => some (.v (.int .i64 (spN plB s : Nat)), s.size ≤ 9223372036854775807)
  | _ => none
theorem ent_spanP_ok : EntOk Try.prog 36 ent_spanP := by
  intro ds d c h hc; unfold ent_spanP at h; split at h
  · obtain ⟨rfl, rfl⟩ := pair_inj h; exact spanP_pure _ hc
  · cases h
theorem empty_dec (s : ByteArray) : (s.toList == []) = decide (s.size = 0) := by
  rw [ByteArray.toList_eq, size_list]
  generalize s.data.toList = l
  cases l <;> simp
theorem hPlain_pure (s : ByteArray) (hpre : s.size ≤ 9223372036854775807) : PureJ Try.prog 38 [.v (.string s)] (.v (.bool (decide (s.size ≠ 0) && decide (spN plB s = s.size)))) := by
  refine pureJ_of_vcx (call := (addPure 36 ent_spanP noCalls)) (lp := fun _ => none) (N := 10) T_ok mixed (addPure_ok ent_spanP_ok noCalls_ok) Try.func38 rfl (by decide) (by kernel_rfl) (by kernel_rfl) (LpAll.none _) (by first | trivial | (simp only [NamelessL, Nameless, and_self, and_true, true_and]; done) | (simp [NamelessL, Nameless, u32s_nameless, namelessL_ints]; done)) (by first | trivial | (simp only [NamelessL, Nameless, and_self, and_true, true_and]; done) | (simp [NamelessL, Nameless, u32s_nameless, namelessL_ints]; done)) ?_
  refine of_eq (B := letI z1 := ByteArray.size s; letI z0 := (D.v (Value.bool ((Decidable.decide (z1 ≠ (0 : Nat))) && (Decidable.decide ((spN plB s) = z1))))); (True ∧ (True ∧ (True ∧ (True ∧ (pcond (!((ByteArray.toList s) == ([] : List UInt8))) (True ∧ ((z1 ≤ (9223372036854775807 : Nat)) ∧ (True ∧ (True ∧ (True ∧ (True ∧ (True ∧ (True ∧ (True ∧ ((D.v (Value.bool ((((spN plB s) : Nat) : Int) == ((z1 : Nat) : Int)))) = z0)))))))))) (True ∧ (True ∧ (True ∧ (True ∧ ((D.v (Value.bool Bool.false)) = z0))))))))))) (by kernel_rfl) ?_
  simp only [true_and, and_true, and_self, IsInt_lit, IsBool_lit, IsStr_lit, IsSl_lit, cellN_lit, cellL_lit, Bool.not_eq_true', Bool.not_eq_false', Bool.not_true, Bool.not_false, Int.reduceLE, Int.reduceLT, Int.reduceNeg, Nat.le_refl, Int.le_refl, Nat.reduceLT, Nat.reduceLeDiff, Nat.reduceEqDiff, D.v.injEq, D.tup.injEq, D.agg.injEq, D.ro.injEq, List.cons.injEq, Value.int.injEq, Value.bool.injEq, pcond_true, pcond_false, NamelessL, Nameless, Nat.reduceMul, Nat.reduceAdd, Nat.zero_add, Int.toNat_natCast]
  rw [empty_dec]
  refine pcond_intro (fun h => ⟨hpre, ?_⟩) (fun h => ?_)
  · simp only [Bool.not_eq_true', decide_eq_false_iff_not] at h
    rw [decide_eq_true (show s.size ≠ 0 from h), Bool.true_and, Bool.eq_iff_iff, beq_iff_eq, decide_eq_true_eq]
    omega
  · simp only [Bool.not_eq_false', decide_eq_true_eq] at h
    rw [decide_eq_false (show ¬ s.size ≠ 0 by omega)]; rfl
def ent_hPlain : Ent := fun ds => match ds with
  | [.v (.string s)] => some (.v (.bool (decide (s.size ≠ 0) && decide (spN plB s = s.size))), s.size ≤ 9223372036854775807)
  | _ => none
theorem ent_hPlain_ok : EntOk Try.prog 38 ent_hPlain := by
  intro ds d c h hc; unfold ent_hPlain at h; split at h
  · obtain ⟨rfl, rfl⟩ := pair_inj h; exact hPlain_pure _ hc
  · cases h
end Go.Proofs.Ytahiigfpikohgaa
end
section
namespace Go.Proofs.Ytahiigfpikohgaa
open Go.VD
set_option linter.unusedVariables false
set_option linter.unusedSimpArgs false
set_option maxRecDepth 100000
theorem rdigit_pure (c : Int) : PureJ Try.prog 64 [.v (.int .u8 c)] (.v (.bool (decide (48 ≤ c) && decide (c ≤ 57)))) := by
  refine pureJ_of_vcx (call := noCalls) (lp := fun _ => none) (N := 10) T_ok mixed noCalls_ok Try.func64 rfl (by decide) (by kernel_rfl) (by kernel_rfl) (LpAll.none _) (by first | trivial | (simp only [NamelessL, Nameless, and_self, and_true, true_and]; done) | (simp [NamelessL, Nameless, u32s_nameless, namelessL_ints]; done)) (by first | trivial | (simp only [NamelessL, Nameless, and_self, and_true, true_and]; done) | (simp [NamelessL, Nameless, u32s_nameless, namelessL_ints]; done)) ?_
  refine of_eq (B := letI z1 := (Decidable.decide ((48 : Int) ≤ c)); letI z2 := (Decidable.decide (c ≤ (57 : Int))); letI z0 := (D.v (Value.bool (z1 && z2))); (True ∧ (True ∧ (True ∧ (True ∧ (pcond z1 (True ∧ (True ∧ (True ∧ (True ∧ (True ∧ (True ∧ ((D.v (Value.bool z2)) = z0))))))) (True ∧ (True ∧ (True ∧ (True ∧ ((D.v (Value.bool Bool.false)) = z0))))))))))) (by kernel_rfl) ?_
  simp only [true_and, and_true, and_self, IsInt_lit, IsBool_lit, IsStr_lit, IsSl_lit, cellN_lit, cellL_lit, Bool.not_eq_true', Bool.not_eq_false', Bool.not_true, Bool.not_false, Int.reduceLE, Int.reduceLT, Int.reduceNeg, Nat.le_refl, Int.le_refl, Nat.reduceLT, Nat.reduceLeDiff, Nat.reduceEqDiff, D.v.injEq, D.tup.injEq, D.agg.injEq, D.ro.injEq, List.cons.injEq, Value.int.injEq, Value.bool.injEq, pcond_true, pcond_false, NamelessL, Nameless, Nat.reduceMul, Nat.reduceAdd, Nat.zero_add, Int.toNat_natCast]
  cases decide (48 ≤ c) <;> cases decide (c ≤ 57) <;> simp [pcond]
def ent_rdigit : Ent := fun ds => match ds with
  | [.v (.int .u8 c)] => some (.v (.bool (decide (48 ≤ c) && decide (c ≤ 57))), True)
  | _ => none
theorem ent_rdigit_ok : EntOk Try.prog 64 ent_rdigit := by
  intro ds d c h hc; unfold ent_rdigit at h; split at h
  · obtain ⟨rfl, rfl⟩ := pair_inj h; exact rdigit_pure _
  · cases h
theorem rletter_pure (c : Int) : PureJ Try.prog 50 [.v (.int .u8 c)] (.v (.bool (letI' c))) := by
  refine pureJ_of_vcx (call := noCalls) (lp := fun _ => none) (N := 10) T_ok mixed noCalls_ok Try.func50 rfl (by decide) (by kernel_rfl) (by kernel_rfl) (LpAll.none _) (by first | trivial | (simp only [NamelessL, Nameless, and_self, and_true, true_and]; done) | (simp [NamelessL, Nameless, u32s_nameless, namelessL_ints]; done)) (by first | trivial | (simp only [NamelessL, Nameless, and_self, and_true, true_and]; done) | (simp [NamelessL, Nameless, u32s_nameless, namelessL_ints]; done)) ?_
  refine of_eq (B := (True ∧ (True ∧ (True ∧ (True ∧ (pcond (Decidable.decide ((97 : Int) ≤ c)) (True ∧ (True ∧ (True ∧ (True ∧ (pcond (Decidable.decide (c ≤ (122 : Int))) ((([] : List Value) = ([] : List Value)) ∧ ((([] : List Value) = ([] : List Value)) ∧ (True ∧ (True ∧ (True ∧ (True ∧ ((D.v (Value.bool Bool.true)) = (D.v (Value.bool (letI' c)))))))))) (True ∧ (True ∧ (True ∧ (pcond (Decidable.decide ((65 : Int) ≤ c)) (True ∧ (True ∧ (True ∧ (True ∧ (True ∧ (True ∧ (True ∧ ((D.v (Value.bool (Decidable.decide (c ≤ (90 : Int))))) = (D.v (Value.bool (letI' c))))))))))) (True ∧ (True ∧ (True ∧ (True ∧ (True ∧ ((D.v (Value.bool Bool.false)) = (D.v (Value.bool (letI' c)))))))))))))))))) (True ∧ (True ∧ (True ∧ (True ∧ (True ∧ (pcond (Decidable.decide ((65 : Int) ≤ c)) (True ∧ (True ∧ (True ∧ (True ∧ (True ∧ (True ∧ (True ∧ ((D.v (Value.bool (Decidable.decide (c ≤ (90 : Int))))) = (D.v (Value.bool (letI' c))))))))))) (True ∧ (True ∧ (True ∧ (True ∧ (True ∧ ((D.v (Value.bool Bool.false)) = (D.v (Value.bool (letI' c))))))))))))))))))))) (by kernel_rfl) ?_
  simp only [true_and, and_true, and_self, IsInt_lit, IsBool_lit, IsStr_lit, IsSl_lit, cellN_lit, cellL_lit, Bool.not_eq_true', Bool.not_eq_false', Bool.not_true, Bool.not_false, Int.reduceLE, Int.reduceLT, Int.reduceNeg, Nat.le_refl, Int.le_refl, Nat.reduceLT, Nat.reduceLeDiff, Nat.reduceEqDiff, D.v.injEq, D.tup.injEq, D.agg.injEq, D.ro.injEq, List.cons.injEq, Value.int.injEq, Value.bool.injEq, pcond_true, pcond_false, NamelessL, Nameless, Nat.reduceMul, Nat.reduceAdd, Nat.zero_add, Int.toNat_natCast]
  unfold letI'
  cases decide (65 ≤ c) <;> cases decide (c ≤ 90) <;> cases decide (97 ≤ c) <;> cases decide (c ≤ 122) <;> simp [pcond]
def ent_rletter : Ent := fun ds => match ds with
  | [.v (.int .u8 c)] => some (.v (.bool (letI' c)), True)
  | _ => none
theorem ent_rletter_ok : EntOk Try.prog 50 ent_rletter := by
  intro ds d c h hc; unfold ent_rletter at h; split at h
  · obtain ⟨rfl, rfl⟩ := pair_inj h; exact rletter_pure _
  · cases h
def markI (c : Int) : Bool := (c == 95) || ((c == 45) || ((c == 43) || ((c == 46) || ((c == 47) || (c == 58)))))
theorem rplain_pure (c : Int) : PureJ Try.prog 58 [.v (.int .u8 c)] (.v (.bool (letI' c || ((decide (48 ≤ c) && decide (c ≤ 57)) || markI c)))) := by
  refine pureJ_of_vcx (call := (addPure 50 ent_rletter (addPure 64 ent_rdigit noCalls))) (lp := fun _ => none) (N := 10) T_ok mixed (addPure_ok ent_rletter_ok (addPure_ok ent_rdigit_ok noCalls_ok)) Try.func58 rfl (by decide) (by kernel_rfl) (by kernel_rfl) (LpAll.none _) (by first | trivial | (simp only [NamelessL, Nameless, and_self, and_true, true_and]; done) | (simp [NamelessL, Nameless, u32s_nameless, namelessL_ints]; done)) (by first | trivial | (simp only [NamelessL, Nameless, and_self, and_true, true_and]; done) | (simp [NamelessL, Nameless, u32s_nameless, namelessL_ints]; done)) ?_
  refine of_eq (B := (True ∧ (True ∧ (True ∧ (True ∧ (pcond (letI' c) (True ∧ (True ∧ (True ∧ (True ∧ (True ∧ (True ∧ (True ∧ (True ∧ (True ∧ (True ∧ (True ∧ (True ∧ (True ∧ (True ∧ (True ∧ (True ∧ ((D.v (Value.bool Bool.true)) = (D.v (Value.bool ((letI' c) || (((Decidable.decide ((48 : Int) ≤ c)) && (Decidable.decide (c ≤ (57 : Int)))) || (markI c)))))))))))))))))))))) (True ∧ (True ∧ (True ∧ (True ∧ (pcond ((Decidable.decide ((48 : Int) ≤ c)) && (Decidable.decide (c ≤ (57 : Int)))) (True ∧ (True ∧ (True ∧ (True ∧ (True ∧ (True ∧ (True ∧ (True ∧ (True ∧ (True ∧ (True ∧ (True ∧ (True ∧ (True ∧ ((D.v (Value.bool Bool.true)) = (D.v (Value.bool ((letI' c) || (((Decidable.decide ((48 : Int) ≤ c)) && (Decidable.decide (c ≤ (57 : Int)))) || (markI c)))))))))))))))))))) (True ∧ (True ∧ (True ∧ (True ∧ (pcond (c == (95 : Int)) (True ∧ (True ∧ (True ∧ (True ∧ (True ∧ (True ∧ (True ∧ (True ∧ (True ∧ (True ∧ (True ∧ (True ∧ ((D.v (Value.bool Bool.true)) = (D.v (Value.bool ((letI' c) || (((Decidable.decide ((48 : Int) ≤ c)) && (Decidable.decide (c ≤ (57 : Int)))) || (markI c)))))))))))))))))) (True ∧ (True ∧ (True ∧ (True ∧ (pcond (c == (45 : Int)) (True ∧ (True ∧ (True ∧ (True ∧ (True ∧ (True ∧ (True ∧ (True ∧ (True ∧ (True ∧ ((D.v (Value.bool Bool.true)) = (D.v (Value.bool ((letI' c) || (((Decidable.decide ((48 : Int) ≤ c)) && (Decidable.decide (c ≤ (57 : Int)))) || (markI c)))))))))))))))) (True ∧ (True ∧ (True ∧ (True ∧ (pcond (c == (43 : Int)) (True ∧ (True ∧ (True ∧ (True ∧ (True ∧ (True ∧ (True ∧ (True ∧ ((D.v (Value.bool Bool.true)) = (D.v (Value.bool ((letI' c) || (((Decidable.decide ((48 : Int) ≤ c)) && (Decidable.decide (c ≤ (57 : Int)))) || (markI c)))))))))))))) (True ∧ (True ∧ (True ∧ (True ∧ (pcond (c == (46 : Int)) (True ∧ (True ∧ (True ∧ (True ∧ (True ∧ (True ∧ ((D.v (Value.bool Bool.true)) = (D.v (Value.bool ((letI' c) || (((Decidable.decide ((48 : Int) ≤ c)) && (Decidable.decide (c ≤ (57 : Int)))) || (markI c)))))))))))) (True ∧ (True ∧ (True ∧ (True ∧ (pcond (c == (47 : Int)) (True ∧ (True ∧ (True ∧ (True ∧ ((D.v (Value.bool Bool.true)) = (D.v (Value.bool ((letI' c) || (((Decidable.decide ((48 : Int) ≤ c)) && (Decidable.decide (c ≤ (57 : Int)))) || (markI c)))))))))) (True ∧ (True ∧ (True ∧ (True ∧ (True ∧ (True ∧ ((D.v (Value.bool (c == (58 : Int)))) = (D.v (Value.bool ((letI' c) || (((Decidable.decide ((48 : Int) ≤ c)) && (Decidable.decide (c ≤ (57 : Int)))) || (markI c)))))))))))))))))))))))))))))))))))))))))))))))) (by kernel_rfl) ?_
  simp only [true_and, and_true, and_self, IsInt_lit, IsBool_lit, IsStr_lit, IsSl_lit, cellN_lit, cellL_lit, Bool.not_eq_true', Bool.not_eq_false', Bool.not_true, Bool.not_false, Int.reduceLE, Int.reduceLT, Int.reduceNeg, Nat.le_refl, Int.le_refl, Nat.reduceLT, Nat.reduceLeDiff, Nat.reduceEqDiff, D.v.injEq, D.tup.injEq, D.agg.injEq, D.ro.injEq, List.cons.injEq, Value.int.injEq, Value.bool.injEq, pcond_true, pcond_false, NamelessL, Nameless, Nat.reduceMul, Nat.reduceAdd, Nat.zero_add, Int.toNat_natCast]
  unfold markI
  generalize letI' c = a
  cases a <;> cases decide (48 ≤ c) <;> cases decide (c ≤ 57) <;> cases (c == 95) <;> cases (c == 45) <;> cases (c == 43) <;> cases (c == 46) <;> cases (c == 47) <;> cases (c == 58) <;> simp [pcond]
def ent_rplain : Ent := fun ds => match ds with
  | [.v (.int .u8 c)] => some (.v (.bool (letI' c || ((decide (48 ≤ c) && decide (c ≤ 57)) || markI c))), True)
  | _ => none
theorem ent_rplain_ok : EntOk Try.prog 58 ent_rplain := by
  intro ds d c h hc; unfold ent_rplain at h; split at h
  · obtain ⟨rfl, rfl⟩ := pair_inj h; exact rplain_pure _
  · cases h
theorem markI_int (n : Nat) : markI (n : Int) = markB n := by
  unfold markI markB
  rw [Bool.eq_iff_iff]; simp; omega
def lp_rPlainLoop (s : ByteArray) : LoopO := loopRule2 (α := Nat) (β := Unit) (γ := Nat) [] (fun n => n ≤ s.size ∧ ∀ i, i < n → plB (bt s i) = true) (fun n => [(0, .v (.string s)), (3, .v (.int .i64 (n : Int)))]) (fun n => []) (0) (fun _ => ∀ i, i < s.size → plB (bt s i) = true) (fun _ => (.exit 0, [(0, .v (.string s))], [])) (fun n => n < s.size ∧ plB (bt s n) = false ∧ ∀ i, i < n → plB (bt s i) = true) (fun n => (.ret, [(2, .v (.bool false))], []))
theorem rPlainLoop_rule (s : ByteArray) (hpre : s.size ≤ 9223372036854775807) : LRuleP Try.prog Try.f51.ntmps (loopAt ((Try.f51.body).getD .skip) 2) (lp_rPlainLoop s) := by
  refine lrule_of2 (α := Nat) (β := Unit) (γ := Nat) (call := (addPure 58 ent_rplain noCalls)) (lp := fun _ => none) (N := 10) T_ok mixed (addPure_ok ent_rplain_ok noCalls_ok) (fun n => s.size - n) (by kernel_rfl) (LpAllP.none _) ?_
  intro x hJ
  refine of_eq (B := (True ∧ (True ∧ (True ∧ (True ∧ (pcond (Decidable.decide (((x : Nat) : Int) < (((ByteArray.size s) : Nat) : Int))) (True ∧ (True ∧ ((((0 : Int) ≤ ((x : Nat) : Int)) ∧ (((x : Nat) : Int) < (((ByteArray.size s) : Nat) : Int))) ∧ (True ∧ (True ∧ (pcond (!((letI' (((UInt8.toNat (List.getD (Array.toList (ByteArray.data s)) (Int.toNat ((x : Nat) : Int)) (0 : UInt8))) : Nat) : Int)) || (((Decidable.decide ((48 : Int) ≤ (((UInt8.toNat (List.getD (Array.toList (ByteArray.data s)) (Int.toNat ((x : Nat) : Int)) (0 : UInt8))) : Nat) : Int))) && (Decidable.decide ((((UInt8.toNat (List.getD (Array.toList (ByteArray.data s)) (Int.toNat ((x : Nat) : Int)) (0 : UInt8))) : Nat) : Int) ≤ (57 : Int)))) || (markI (((UInt8.toNat (List.getD (Array.toList (ByteArray.data s)) (Int.toNat ((x : Nat) : Int)) (0 : UInt8))) : Nat) : Int))))) (True ∧ ((∃ (r : Unit), (∃ (kp : (List (Option Nat))), ((∀ (i : Nat), ((i < (ByteArray.size s)) → ((plB (bt s i)) = Bool.true))) ∧ ((Exit.ret = (Exit.exit (0 : Nat))) ∧ (viewAll kp [(Prod.mk (0 : Nat) (D.v (Value.string s)))] ([] : List (Option Blk)) (Prod.fst (Prod.snd ((fun (x_1 : Unit) => (Prod.mk (Exit.exit (0 : Nat)) (Prod.mk [(Prod.mk (0 : Nat) (D.v (Value.string s)))] ([] : List (Option Blk))))) r))) (Prod.snd (Prod.snd ((fun (x_1 : Unit) => (Prod.mk (Exit.exit (0 : Nat)) (Prod.mk [(Prod.mk (0 : Nat) (D.v (Value.string s)))] ([] : List (Option Blk))))) r)))))))) ∨ (∃ (r : Nat), (∃ (kp : (List (Option Nat))), (((r < (ByteArray.size s)) ∧ (((plB (bt s r)) = Bool.false) ∧ (∀ (i : Nat), ((i < r) → ((plB (bt s i)) = Bool.true))))) ∧ ((Exit.ret = Exit.ret) ∧ (viewAll kp [(Prod.mk (2 : Nat) (D.v (Value.bool Bool.false)))] ([] : List (Option Blk)) (Prod.fst (Prod.snd ((fun (n : Nat) => (Prod.mk Exit.ret (Prod.mk [(Prod.mk (2 : Nat) (D.v (Value.bool Bool.false)))] ([] : List (Option Blk))))) r))) (Prod.snd (Prod.snd ((fun (n : Nat) => (Prod.mk Exit.ret (Prod.mk [(Prod.mk (2 : Nat) (D.v (Value.bool Bool.false)))] ([] : List (Option Blk))))) r)))))))))) (True ∧ (True ∧ (True ∧ (∃ (y : Nat), (∃ (kp : (List (Option Nat))), ((((ByteArray.size s) - y) < ((ByteArray.size s) - x)) ∧ (((y ≤ (ByteArray.size s)) ∧ (∀ (i : Nat), ((i < y) → ((plB (bt s i)) = Bool.true)))) ∧ (viewAll kp [(Prod.mk (0 : Nat) (D.v (Value.string s))), (Prod.mk (3 : Nat) (D.v (Value.int IntKind.i64 (IntKind.wrap IntKind.i64 (((x : Nat) : Int) + (1 : Int))))))] ([] : List (Option Blk)) [(Prod.mk (0 : Nat) (D.v (Value.string s))), (Prod.mk (3 : Nat) (D.v (Value.int IntKind.i64 ((y : Nat) : Int))))] ([] : List (Option Blk)))))))))))))))) ((∃ (r : Unit), (∃ (kp : (List (Option Nat))), ((∀ (i : Nat), ((i < (ByteArray.size s)) → ((plB (bt s i)) = Bool.true))) ∧ (((Exit.exit (0 : Nat)) = (Exit.exit (0 : Nat))) ∧ (viewAll kp [(Prod.mk (0 : Nat) (D.v (Value.string s)))] ([] : List (Option Blk)) (Prod.fst (Prod.snd ((fun (x_1 : Unit) => (Prod.mk (Exit.exit (0 : Nat)) (Prod.mk [(Prod.mk (0 : Nat) (D.v (Value.string s)))] ([] : List (Option Blk))))) r))) (Prod.snd (Prod.snd ((fun (x_1 : Unit) => (Prod.mk (Exit.exit (0 : Nat)) (Prod.mk [(Prod.mk (0 : Nat) (D.v (Value.string s)))] ([] : List (Option Blk))))) r)))))))) ∨ (∃ (r : Nat), (∃ (kp : (List (Option Nat))), (((r < (ByteArray.size s)) ∧ (((plB (bt s r)) = Bool.false) ∧ (∀ (i : Nat), ((i < r) → ((plB (bt s i)) = Bool.true))))) ∧ (((Exit.exit (0 : Nat)) = Exit.ret) ∧ (viewAll kp ([] : List (Prod Nat D)) ([] : List (Option Blk)) (Prod.fst (Prod.snd ((fun (n : Nat) => (Prod.mk Exit.ret (Prod.mk [(Prod.mk (2 : Nat) (D.v (Value.bool Bool.false)))] ([] : List (Option Blk))))) r))) (Prod.snd (Prod.snd ((fun (n : Nat) => (Prod.mk Exit.ret (Prod.mk [(Prod.mk (2 : Nat) (D.v (Value.bool Bool.false)))] ([] : List (Option Blk))))) r))))))))))))))) (by kernel_rfl) ?_
  simp only [true_and, and_true, and_self, IsInt_lit, IsBool_lit, IsStr_lit, IsSl_lit, cellN_lit, cellL_lit, Bool.not_eq_true', Bool.not_eq_false', Bool.not_true, Bool.not_false, Int.reduceLE, Int.reduceLT, Int.reduceNeg, Nat.le_refl, Int.le_refl, Nat.reduceLT, Nat.reduceLeDiff, Nat.reduceEqDiff, D.v.injEq, D.tup.injEq, D.agg.injEq, D.ro.injEq, List.cons.injEq, Value.int.injEq, Value.bool.injEq, pcond_true, pcond_false, NamelessL, Nameless, Nat.reduceMul, Nat.reduceAdd, Nat.zero_add, Int.toNat_natCast] at *
  obtain ⟨hx, hall⟩ := hJ
  have w1 : x < s.size → IntKind.i64.wrap ((x : Int) + 1) = ((x + 1 : Nat) : Int) := fun h => by rw [wrap_i64_of (by omega) (by omega)]; omega
  simp only [show (s.data.toList.getD x 0).toNat = bt s x from rfl, let_int, digB_int, markI_int]
  rw [show (letB (bt s x) || (digB (bt s x) || markB (bt s x))) = plB (bt s x) from rfl]
  refine pcond_intro (fun h => ⟨?_, ?_⟩) (fun h => .inl ⟨(), [], ?_, ?_⟩)
  · simp only [decide_eq_true_eq] at h; omega
  · simp only [decide_eq_true_eq] at h
    have h : x < s.size := by omega
    refine pcond_intro (fun h1 => .inr ⟨x, [], ⟨h, by simpa using h1, hall⟩, ?_⟩) (fun h1 => ⟨x + 1, [], by omega, ⟨by omega, fun i hi => ?_⟩, ?_⟩)
    · refine of_eq (B := letI z0 := (D.v (Value.bool Bool.false)); letI z1 := ([] : List (Option Blk)); ((Bool.true = Bool.true) ∧ ((z1 = z1) ∧ ((True ∧ (z0 = z0)) ∧ True)))) (by kernel_rfl) ?_
      simp
    · rcases Nat.lt_or_ge i x with h2 | h2
      · exact hall i h2
      · rw [show i = x by omega]; simpa using h1
    · rw [w1 h]
      refine of_eq (B := letI z0 := (D.v (Value.int IntKind.i64 (((x + (1 : Nat)) : Nat) : Int))); letI z1 := ([] : List (Option Blk)); letI z2 := (D.v (Value.string s)); ((Bool.true = Bool.true) ∧ ((z1 = z1) ∧ ((True ∧ (z2 = z2)) ∧ ((True ∧ (z0 = z0)) ∧ True))))) (by kernel_rfl) ?_
      simp
  · simp only [decide_eq_false_iff_not] at h
    intro i hi
    exact hall i (by omega)
  · refine of_eq (B := letI z0 := ([] : List (Option Blk)); letI z1 := (D.v (Value.string s)); ((Bool.true = Bool.true) ∧ ((z0 = z0) ∧ ((True ∧ (z1 = z1)) ∧ True)))) (by kernel_rfl) ?_
    simp
theorem rPlain_pure (s : ByteArray) (hpre : s.size ≤ 9223372036854775807) : PureJ Try.prog 51 [.v (.string s)] (.v (.bool (decide (s.size ≠ 0) && decide (spN plB s = s.size)))) := by
  refine pureJ_of_vcp (call := noCalls) (lp := fun k => bif Nat.beq k 2 then some (lp_rPlainLoop s) else none) (N := 10) T_ok mixed noCalls_ok Try.func51 rfl (by decide) (by kernel_rfl) (by kernel_rfl) (of_eq (B := LRuleP Try.prog Try.f51.ntmps (loopAt ((Try.f51.body).getD .skip) 2) (lp_rPlainLoop s) ∧ True) (by kernel_rfl) ⟨rPlainLoop_rule s hpre, trivial⟩) (by first | trivial | (simp only [NamelessL, Nameless, and_self, and_true, true_and]; done) | (simp [NamelessL, Nameless, u32s_nameless, namelessL_ints]; done)) (by first | trivial | (simp only [NamelessL, Nameless, and_self, and_true, true_and]; done) | (simp [NamelessL, Nameless, u32s_nameless, namelessL_ints]; done)) ?_
  refine of_eq (B := letI z1 := ByteArray.size s; letI z0 := (D.v (Value.bool ((Decidable.decide (z1 ≠ (0 : Nat))) && (Decidable.decide ((spN plB s) = z1))))); letI z2 := (D.v (Value.int IntKind.i64 (0 : Int))); letI z3 := ([] : List (Option Blk)); letI z4 := (D.v (Value.string s)); (True ∧ (True ∧ ((((0 : Nat) ≤ z1) ∧ (∀ (i : Nat), ((i < (0 : Nat)) → ((plB (bt s i)) = Bool.true)))) ∧ (((Bool.true = Bool.true) ∧ ((z3 = z3) ∧ ((True ∧ (z4 = z4)) ∧ ((True ∧ (z2 = z2)) ∧ True)))) ∧ ((Unit → ((∀ (i : Nat), ((i < z1) → ((plB (bt s i)) = Bool.true))) → (True ∧ (True ∧ (True ∧ (True ∧ (True ∧ ((D.v (Value.bool (!((ByteArray.toList s) == ([] : List UInt8))))) = z0)))))))) ∧ (∀ (r : Nat), (((r < z1) ∧ (((plB (bt s r)) = Bool.false) ∧ (∀ (i : Nat), ((i < r) → ((plB (bt s i)) = Bool.true))))) → (True ∧ (True ∧ ((D.v (Value.bool Bool.false)) = z0))))))))))) (by kernel_rfl) ?_
  simp only [true_and, and_true, and_self, IsInt_lit, IsBool_lit, IsStr_lit, IsSl_lit, cellN_lit, cellL_lit, Bool.not_eq_true', Bool.not_eq_false', Bool.not_true, Bool.not_false, Int.reduceLE, Int.reduceLT, Int.reduceNeg, Nat.le_refl, Int.le_refl, Nat.reduceLT, Nat.reduceLeDiff, Nat.reduceEqDiff, D.v.injEq, D.tup.injEq, D.agg.injEq, D.ro.injEq, List.cons.injEq, Value.int.injEq, Value.bool.injEq, pcond_true, pcond_false, NamelessL, Nameless, Nat.reduceMul, Nat.reduceAdd, Nat.zero_add, Int.toNat_natCast]
  refine ⟨⟨Nat.zero_le _, fun i h => absurd h (Nat.not_lt_zero _)⟩, fun _ h => ?_, fun r h => ?_⟩
  · rw [spN_all h, empty_dec, decide_eq_true (show s.size = s.size from rfl), Bool.and_true, Bool.eq_iff_iff]
    simp only [Bool.not_eq_true', decide_eq_false_iff_not, decide_eq_true_eq, ne_eq]
  · rw [spN_at h.1 h.2.1 h.2.2, decide_eq_false (show ¬ r = s.size by omega), Bool.and_false]
def ent_rPlain : Ent := fun ds => match ds with
  | [.v (.string s)] => some (.v (.bool (decide (s.size ≠ 0) && decide (spN plB s = s.size))), s.size ≤ 9223372036854775807)
  | _ => none
theorem ent_rPlain_ok : EntOk Try.prog 51 ent_rPlain := by
  intro ds d c h hc; unfold ent_rPlain at h; split at h
  · obtain ⟨rfl, rfl⟩ := pair_inj h; exact rPlain_pure _ hc
  · cases h
end Go.Proofs.Ytahiigfpikohgaa
end
section
namespace Go.Proofs.Ytahiigfpikohgaa
open Go.VD
set_option linter.unusedVariables false
set_option linter.unusedSimpArgs false
set_option maxRecDepth 100000
def hasQ (s p : ByteArray) : Bool := decide (p.size ≤ s.size) && ((s.extract 0 p.size).toList == p.toList)
theorem hasPrefixQ_pure (s p : ByteArray) : PureJ Try.prog 54 [.v (.string s), .v (.string p)] (.v (.bool (hasQ s p))) := by
  refine pureJ_of_vcx (call := noCalls) (lp := fun _ => none) (N := 10) T_ok mixed noCalls_ok Try.func54 rfl (by decide) (by kernel_rfl) (by kernel_rfl) (LpAll.none _) (by first | trivial | (simp only [NamelessL, Nameless, and_self, and_true, true_and]; done) | (simp [NamelessL, Nameless, u32s_nameless, namelessL_ints]; done)) (by first | trivial | (simp only [NamelessL, Nameless, and_self, and_true, true_and]; done) | (simp [NamelessL, Nameless, u32s_nameless, namelessL_ints]; done)) ?_
  refine of_eq (B := letI z0 := (((ByteArray.size p) : Nat) : Int); letI z1 := (((ByteArray.size s) : Nat) : Int); letI z2 := (D.v (Value.bool (hasQ s p))); (True ∧ (True ∧ (True ∧ (True ∧ (True ∧ (True ∧ (True ∧ (pcond (Decidable.decide (z0 ≤ z1)) (True ∧ (True ∧ (True ∧ ((True ∧ ((((0 : Int) ≤ z0) ∧ (z0 ≤ z1)) ∧ True)) ∧ (True ∧ (True ∧ (True ∧ (True ∧ (True ∧ (True ∧ ((D.v (Value.bool ((ByteArray.toList (ByteArray.extract s (0 : Nat) (Int.toNat z0))) == (ByteArray.toList p)))) = z2))))))))))) (True ∧ (True ∧ (True ∧ (True ∧ ((D.v (Value.bool Bool.false)) = z2)))))))))))))) (by kernel_rfl) ?_
  simp only [true_and, and_true, and_self, IsInt_lit, IsBool_lit, IsStr_lit, IsSl_lit, cellN_lit, cellL_lit, Bool.not_eq_true', Bool.not_eq_false', Bool.not_true, Bool.not_false, Int.reduceLE, Int.reduceLT, Int.reduceNeg, Nat.le_refl, Int.le_refl, Nat.reduceLT, Nat.reduceLeDiff, Nat.reduceEqDiff, D.v.injEq, D.tup.injEq, D.agg.injEq, D.ro.injEq, List.cons.injEq, Value.int.injEq, Value.bool.injEq, pcond_true, pcond_false, NamelessL, Nameless, Nat.reduceMul, Nat.reduceAdd, Nat.zero_add, Int.toNat_natCast]
  unfold hasQ
  refine pcond_intro (fun h => ?_) (fun h => ?_)
  · simp only [decide_eq_true_eq] at h
    rw [decide_eq_true (show p.size ≤ s.size by omega), Bool.true_and]
    exact ⟨by omega, rfl⟩
  · simp only [decide_eq_false_iff_not] at h
    rw [decide_eq_false (show ¬ p.size ≤ s.size by omega), Bool.false_and]
def ent_hasPrefixQ : Ent := fun ds => match ds with
  | [.v (.string s), .v (.string p)] => some (.v (.bool (hasQ s p)), True)
  | _ => none
theorem ent_hasPrefixQ_ok : EntOk Try.prog 54 ent_hasPrefixQ := by
  intro ds d c h hc; unfold ent_hasPrefixQ at h; split at h
  · obtain ⟨rfl, rfl⟩ := pair_inj h; exact hasPrefixQ_pure _ _
  · cases h
def dash : ByteArray := ⟨#[45]⟩
def dcV (t : ByteArray) : Nat → Int
  | 0 => 0
  | i + 1 => 10 * dcV t i + ((bt t i : Int) - 48)
theorem dcV_bd {t : ByteArray} : ∀ i, (∀ j, j < i → digB (bt t j) = true) → 0 ≤ dcV t i ∧ dcV t i + 1 ≤ 10 ^ i
  | 0, _ => by simp [dcV]
  | i + 1, h => by
    obtain ⟨h1, h2⟩ := dcV_bd i fun j hj => h j (by omega)
    have h3 := h i (by omega)
    unfold digB at h3
    simp only [Bool.and_eq_true, decide_eq_true_eq] at h3
    simp only [dcV, Int.pow_succ]
    omega
def numT (s : ByteArray) : ByteArray := bif hasQ s dash then s.extract 1 s.size else s
def numG (s : ByteArray) : Bool := hasQ s dash
def numOk (s : ByteArray) : Bool := decide (0 < (numT s).size) && (decide ((numT s).size ≤ 7) && (decide (spN digB (numT s) = (numT s).size) && !(decide (bt (numT s) 0 = 48) && !(s.toList == [48]))))
def numV (s : ByteArray) : Int := bif numG s then -(dcV (numT s) (numT s).size) else dcV (numT s) (numT s).size
theorem numT_size (s : ByteArray) : (numT s).size ≤ s.size := by
  unfold numT
  cases hasQ s dash
  · exact Nat.le_refl _
  · simp only [cond_true, ByteArray.size_extract]; omega
theorem spN_le (p : Nat → Bool) (s : ByteArray) : spN p s ≤ s.size := by
  unfold spN; rw [size_list]; exact List.findIdx_le_length
theorem spN_eq {p : Nat → Bool} {s : ByteArray} (h : spN p s = s.size) : ∀ i, i < s.size → p (bt s i) = true := by
  intro i hi
  have hl : i < s.data.toList.length := by rw [← size_list]; exact hi
  have := List.not_of_lt_findIdx (p := fun b : UInt8 => !p b.toNat) (xs := s.data.toList) (i := i) (by unfold spN at h; rw [h]; exact hi)
  rw [bt_get hl]
  simpa using this
end Go.Proofs.Ytahiigfpikohgaa
end
section
namespace Go.VD
set_option linter.unusedVariables false
set_option linter.unusedSimpArgs false
def reB (H : Heap) (ns : List Nat) (blk : Blk) : Blk × Prop :=
  bif (namesD.namesA blk.cs).isEmpty then (blk, True) else
    bif (namesD.namesA blk.cs).all (fun b => ns.contains b) then (match sealL H blk.cs with
      | some (cs, c) => (⟨blk.ty, cs, blk.full⟩, c ∧ NamelessL cs)
      | none => (blk, True))
    else (blk, True)
def reH (H : Heap) (ns : List Nat) : Heap → Heap
  | [] => []
  | none :: r => none :: reH H ns r
  | some blk :: r => some (reB H ns blk).1 :: reH H ns r
def reC (H : Heap) (ns : List Nat) : Heap → Prop
  | [] => True
  | none :: r => reC H ns r
  | some blk :: r => (reB H ns blk).2 ∧ reC H ns r
theorem reH_length (H : Heap) (ns : List Nat) : ∀ L : Heap, (reH H ns L).length = L.length
  | [] => rfl
  | none :: r => by simp only [reH, List.length_cons, reH_length H ns r]
  | some blk :: r => by simp only [reH, List.length_cons, reH_length H ns r]
theorem reH_get (H : Heap) (ns : List Nat) : ∀ (L : Heap) (b : Nat) (blk2 : Blk), (reH H ns L)[b]? = some (some blk2) → ∃ blk, L[b]? = some (some blk) ∧ blk2 = (reB H ns blk).1
  | [], b, blk2, h => by simp [reH] at h
  | none :: r, 0, blk2, h => by simp [reH] at h
  | none :: r, b + 1, blk2, h => by simp only [reH, List.getElem?_cons_succ] at h ⊢; exact reH_get H ns r b blk2 h
  | some blk :: r, 0, blk2, h => by simp only [reH, List.getElem?_cons_zero, Option.some.injEq] at h ⊢; exact ⟨blk, rfl, h.symm⟩
  | some blk :: r, b + 1, blk2, h => by simp only [reH, List.getElem?_cons_succ] at h ⊢; exact reH_get H ns r b blk2 h
theorem reC_get (H : Heap) (ns : List Nat) : ∀ (L : Heap) (b : Nat) (blk : Blk), reC H ns L → L[b]? = some (some blk) → (reB H ns blk).2
  | [], b, blk, _, h => by simp at h
  | none :: r, 0, blk, _, h => by simp at h
  | none :: r, b + 1, blk, hc, h => by simp only [List.getElem?_cons_succ] at h; exact reC_get H ns r b blk hc h
  | some x :: r, 0, blk, hc, h => by simp only [List.getElem?_cons_zero, Option.some.injEq] at h; subst h; exact hc.1
  | some x :: r, b + 1, blk, hc, h => by simp only [List.getElem?_cons_succ] at h; exact reC_get H ns r b blk hc.2 h
theorem reB_cases (H : Heap) (ns : List Nat) (blk : Blk) : (reB H ns blk).1 = blk ∨ ∃ cs c, (∀ b ∈ namesD.namesA blk.cs, b ∈ ns) ∧ sealL H blk.cs = some (cs, c) ∧ reB H ns blk = (⟨blk.ty, cs, blk.full⟩, c ∧ NamelessL cs) := by
  unfold reB
  cases h1 : (namesD.namesA blk.cs).isEmpty with
  | true => exact .inl rfl
  | false =>
    cases h2 : (namesD.namesA blk.cs).all (fun b => ns.contains b) with
    | false => exact .inl rfl
    | true =>
      cases h3 : sealL H blk.cs with
      | none => exact .inl rfl
      | some p =>
        obtain ⟨cs, c⟩ := p
        refine .inr ⟨cs, c, fun b hb => ?_, rfl, rfl⟩
        have := List.all_eq_true.1 h2 b hb
        simpa using this
theorem row_reseal {H : Heap} {o : Option Obj} {blk : Blk} {cur : Array Value} {cs : List D} {c : Prop} (h : Row o blk cur) (hs : sealL H blk.cs = some (cs, c)) : Row o ⟨blk.ty, cs, blk.full⟩ cur := by
  rcases h with h | ⟨s, n, rfl, h2, h3, h4⟩
  · exact .inl h
  · simp only [sealL, sealD] at hs
    obtain ⟨rfl, _⟩ := pair_inj hs
    exact .inr ⟨s, n, rfl, h2, h3, h4⟩
theorem PureJ.handC {P : Program} {f : FuncId} {ds ds' : List D} {d : D} {H : Heap} {c : Prop} (h : PureJ P f ds' d) (hs : sealL H ds = some (ds', c)) (hc : c) (hre : reC H (namesD.namesA ds) (dropN H (namesD.namesA ds))) :
    CallJ P f ds H d (reH H (namesD.namesA ds) (dropN H (namesD.namesA ds))) := by
  refine ⟨h.callable, fun ρ S w vals hS hv => ?_⟩
  let S0 : Nat → Prop := fun k => S k ∨ ∃ b blk, b ∈ namesD.namesA ds ∧ H[b]? = some (some blk) ∧ 0 < (ρ b).2 ∧ (ρ b).1 = k
  have hD := dropN_drops (namesD.namesA ds) H
  have hsub : ∀ k, S0 k → k < w.heap.size := fun k hk => by
    rcases hk with h | ⟨b, blk, _, h2, h3, h4⟩
    · exact (hS.sub k h).1
    · exact hS.lt ⟨b, blk, h2, h3, h4⟩
  have h1 : RdT (ctx ρ S0 w []) ds' vals :=
    sealT_rdN (N := fun b => b ∈ namesD.namesA ds) (S' := S0) (H' := []) hS (fun k h => .inl h) (fun b blk hn hb hz => .inr ⟨b, blk, hn, hb, hz, rfl⟩) ds ds' c vals (fun b hb => hb) hs hc hv
  have hlive : ∀ k, Live ρ (reH H (namesD.namesA ds) (dropN H (namesD.namesA ds))) k → Live ρ (dropN H (namesD.namesA ds)) k := by
    rintro k ⟨b, blk2, hb, hz, e⟩
    obtain ⟨blk, hb1, _⟩ := reH_get _ _ _ b blk2 hb
    exact ⟨b, blk, hb1, hz, e⟩
  have hfix0 : ∀ k, S0 k → Fix (ctx ρ S0 w (dropN H (namesD.namesA ds))) k := fun k hk => ⟨hsub k hk, fun ⟨b, blk, hb, hz, e⟩ => by
    have hb0 := hD.2 b blk hb
    rcases hk with hk | ⟨b', blk', hn, hb', hz', e'⟩
    · exact (hS.sub k hk).2 ⟨b, blk, hb0, hz, e⟩
    · have := hS.inj b b' _ _ hb0 hb' hz hz' (e.trans e'.symm)
      subst this
      exact dropN_gone _ H b hn blk hb⟩
  refine (h.call S0 w vals hsub (hS.glob.mono (fun _ h => .inl h) fun _ _ => rfl) (RdT.move h.args h1)).mono fun e w' ⟨v, S', he, hg, g1, g2, g3, g4⟩ => ?_
  have hSd := hS.drops hD
  have hfix : ∀ k, S' k → Fix (ctx ρ S' w' (reH H (namesD.namesA ds) (dropN H (namesD.namesA ds)))) k := fun k hk => ⟨g3 k hk, fun hl => by
    have hl := hlive k hl
    rcases g2 k hk with h | h
    · exact (hfix0 k h).2 hl
    · have := hSd.lt hl; omega⟩
  have hle : (ctx ρ S w H).le (ctx ρ S' w' (reH H (namesD.namesA ds) (dropN H (namesD.namesA ds)))) :=
    ⟨Nat.le_of_eq (by show H.length = (reH _ _ _).length; rw [reH_length]; exact hD.1.symm), fun _ _ => rfl, fun k hk => g1 k (.inl hk), fun k hk => hg.heap k (hS.sub k hk).1, fun k hk => by
      rcases g2 k hk with (h | ⟨b, blk, _, h2, h3, h4⟩) | h
      · exact .inl h
      · exact .inr (.inl ⟨b, blk, h2, h3, h4⟩)
      · exact .inr (.inr h),
     fun k hk => ⟨Nat.lt_of_lt_of_le hk.1 hg.size, fun hl => by
      obtain ⟨b, blk, hb, hz, e⟩ := hlive k hl
      exact hk.2 ⟨b, blk, hD.2 b blk hb, hz, e⟩⟩, fun k hk => hg.heap k hk.1, hg.size, hg.os, hg.tape, hg.output⟩
  refine ⟨v, ρ, S', he, ⟨hfix, fun b blk2 hb hz => ?_, fun b blk2 hb hz => ?_, fun b b' blk blk' hb hb' hz hz' e => ?_, hS.glob.mono (fun _ h => g1 _ (.inl h)) hle.keep⟩, hle, Rd.move h.res g4⟩
  · obtain ⟨blk, hb1, rfl⟩ := reH_get _ _ _ b blk2 hb
    have h0 := hS.none b blk (hD.2 b blk hb1) hz
    unfold reB
    rw [h0]
    exact h0
  · obtain ⟨blk, hb1, rfl⟩ := reH_get _ _ _ b blk2 hb
    obtain ⟨cur, hcur⟩ := hS.blk b blk (hD.2 b blk hb1) hz
    have hcell := reC_get _ _ _ b blk hre hb1
    rcases reB_cases H (namesD.namesA ds) blk with e | ⟨cs, c2, hn, hs2, e⟩
    · rw [e]
      exact ⟨cur, hcur.heap.of (hg.heap _ hcur.lt), hcur.size, hcur.pre.mono hle _ _, hcur.full⟩
    · rw [e] at hcell
      have hl := sealL_length hs2
      have h2 : RdL (ctx ρ S0 w []) cs (cur.toList.take blk.cs.length) :=
        sealL_rdN (N := fun b => b ∈ namesD.namesA ds) (S' := S0) (H' := []) hS (fun k h => .inl h) (fun b blk hn hb hz => .inr ⟨b, blk, hn, hb, hz, rfl⟩) blk.cs cs c2 _ hn hs2 hcell.1 hcur.pre
      rw [e]
      refine ⟨cur, row_reseal (hcur.heap.of (hg.heap _ hcur.lt)) hs2, hcur.size, ?_, fun hf => by rw [hl]; exact hcur.full hf⟩
      simp only
      rw [hl]
      exact RdL.nameless (E := ctx ρ S0 w []) (fun k hk => g1 k hk) (fun k hk => hg.heap k (hsub k hk)) cs _ hcell.2 h2
  · obtain ⟨x, hx, _⟩ := reH_get _ _ _ b blk hb
    obtain ⟨y, hy, _⟩ := reH_get _ _ _ b' blk' hb'
    exact hS.inj b b' _ _ (hD.2 _ _ hx) (hD.2 _ _ hy) hz hz' e
def addKeep (f : FuncId) (e : Ent) (r : CallO) : CallO := fun g ds H K => bif Nat.beq g f then (match sealL H ds with
  | some (ds', c') => match e ds' with
    | some (d, c) => some ((c' ∧ c ∧ reC H (namesD.namesA ds) (dropN H (namesD.namesA ds))) ∧ K d (reH H (namesD.namesA ds) (dropN H (namesD.namesA ds))) .al)
    | none => none
  | none => none) else r g ds H K
theorem addKeep_ok {P : Program} {f : FuncId} {e : Ent} {r : CallO} (he : EntOk P f e) (hr : CallOK P r) : CallOK P (addKeep f e r) := by
  intro g ds H K p h hp
  unfold addKeep at h
  cases hg : Nat.beq g f with
  | false => rw [hg] at h; exact hr g ds H K p h hp
  | true =>
    rw [hg] at h
    have hgf : g = f := Nat.eq_of_beq_eq_true hg
    subst hgf
    simp only [cond_true] at h
    split at h
    · rename_i ds' c' hs
      split at h
      · rename_i d c hd
        injection h with h; subst h
        obtain ⟨⟨hc', hc, hre⟩, hk⟩ := hp
        exact .own d _ ((he ds' d c hd hc).handC hs hc' hre) hk
      · cases h
    · cases h
end Go.VD
end
section
namespace Go.VD
set_option linter.unusedVariables false
set_option linter.unusedSimpArgs false
mutual
def nilRo : D → D
  | .v x => match x with
    | .slice none 0 0 => .ro 0 []
    | y => .v y
  | .ro n xs => .ro n xs
  | .rp xs j => .rp xs j
  | .sl b o n c => .sl b o n c
  | .ptr b o => .ptr b o
  | .agg xs => .agg (nilRoL xs)
  | .tup xs => .tup (nilRoL xs)
  | .ifc t d => .ifc t d
  | .fn f k c => .fn f k c
def nilRoL : List D → List D
  | [] => []
  | d :: ds => nilRo d :: nilRoL ds
end
theorem nilRo_v {E : Ctx} {x u : Value} (h : u = x) : Rd E (nilRo (.v x)) u := by
  unfold nilRo
  split
  · exact ⟨by simp [NamelessL], none, 0, h, Nat.le_refl _, Nat.zero_le _, fun h => absurd h (Nat.lt_irrefl _)⟩
  · exact h
theorem nilRo_vn (x : Value) : Nameless (nilRo (.v x)) := by
  unfold nilRo
  split
  · simp [Nameless, NamelessL]
  · simp [Nameless]
mutual
theorem rd_nilRo {E : Ctx} : ∀ (d : D) (u : Value), Rd E d u → Rd E (nilRo d) u
  | .v x, u, h => nilRo_v h
  | .ro .., _, h => h
  | .rp .., _, h => h
  | .sl .., _, h => h
  | .ptr .., _, h => h
  | .agg xs, u, ⟨us, e, h⟩ => ⟨us, e, rdL_nilRo xs us.toList h⟩
  | .tup xs, u, ⟨us, e, h⟩ => ⟨us, e, rdT_nilRo xs us.toList h⟩
  | .ifc .., _, h => h
  | .fn .., _, h => h
theorem rdL_nilRo {E : Ctx} : ∀ (ds : List D) (us : List Value), RdL E ds us → RdL E (nilRoL ds) us
  | [], _, h => h
  | d :: ds, _, ⟨u, r, e, h1, h2, h3⟩ => ⟨u, r, e, h1, rd_nilRo d u h2, rdL_nilRo ds r h3⟩
theorem rdT_nilRo {E : Ctx} : ∀ (ds : List D) (us : List Value), RdT E ds us → RdT E (nilRoL ds) us
  | [], _, h => h
  | d :: ds, _, ⟨u, r, e, h2, h3⟩ => ⟨u, r, e, rd_nilRo d u h2, rdT_nilRo ds r h3⟩
end
mutual
theorem nameless_nilRo : ∀ d : D, Nameless (nilRo d) → Nameless d
  | .v _, _ => trivial
  | .ro .., h => h
  | .rp .., h => h
  | .sl .., h => h
  | .ptr .., h => h
  | .agg xs, h => namelessL_nilRo xs h
  | .tup xs, h => namelessL_nilRo xs h
  | .ifc .., h => h
  | .fn .., h => h
theorem namelessL_nilRo : ∀ ds : List D, NamelessL (nilRoL ds) → NamelessL ds
  | [], h => h
  | d :: ds, h => ⟨nameless_nilRo d h.1, namelessL_nilRo ds h.2⟩
end
theorem PureJ.nilRo {P : Program} {f : FuncId} {ds : List D} {d : D} (h : PureJ P f (nilRoL ds) d) : PureJ P f ds d :=
  ⟨h.callable, namelessL_nilRo ds h.args, h.res, fun S w vals hs hG hv => h.call S w vals hs hG (rdT_nilRo ds vals hv)⟩
def nilEnt (e : Ent) : Ent := fun ds => e (nilRoL ds)
theorem nilEnt_ok {P : Program} {f : FuncId} {e : Ent} (h : EntOk P f e) : EntOk P f (nilEnt e) := fun ds d c h1 h2 => (h _ _ _ h1 h2).nilRo
def SealNil (H1 : Heap) (d1 d : D) : Prop := match sealD H1 d1 with
  | some (e, c) => c ∧ nilRo e = d
  | none => False
theorem fin_sealNil {P : Program} {ds : List D} {d1 d : D} {H1 : Heap} (h : SealNil H1 d1 d) : Fin ds [] d1 H1 d [] := by
  unfold SealNil at h
  split at h
  · rename_i e c hs
    obtain ⟨hc, rfl⟩ := h
    have hf : SealTo H1 d1 e := by unfold SealTo; rw [hs]; exact ⟨hc, rfl⟩
    intro ρ0 S0 w0 ρ S w u a1 a2 a3 a4
    obtain ⟨ρ', S', b1, b2, b3⟩ := fin_seal (ds := ds) hf ρ0 S0 w0 ρ S w u a1 a2 a3 a4
    exact ⟨ρ', S', b1, b2, rd_nilRo _ _ b3⟩
  · exact h.elim
theorem pureJ_of_vcpN {P : Program} {T : Tbl} {N : Nat} {call : CallO} {lp : Nat → Option LoopO} (hT : TblOk P T) (hm : P.follows .mixedOrders = true) (hc : CallOK P call) {f : FuncId} {fn : Func} {c : Code} {ds : List D} {d : D} (hf : P.funcs[f]? = some fn) (hb : fn.body = some c)
    (hname : (fn.name == "runtime.NumGoroutine") = false) (hok : codeOk fn.ntmps c = true) (hlen : decide (ds.length ≤ fn.ntmps) = true) (hl : LpAllP P fn.ntmps lp (loopsOf c)) (h1 : NamelessL ds) (h2 : Nameless d)
    (h : vcx P call lp T N c (retQ T fn.results.toList fun d1 H1 => SealNil H1 d1 d) (envOf 0 ds) []) : PureJ P f ds d := by
  refine PureJ.of_nil h1 h2 (callJ_of_dw hT hf hb hname (by simpa using hlen) ?_)
  intro ρ S w a hi
  refine wp_mono (vcp_sound hT hm hc c _ _ _ hok hl h ρ S w a hi) fun e a' w' ⟨env', H', ρ', S', g1, g2, g3⟩ => ?_
  have nl : ∀ ρ k, ¬ Live ρ [] k := fun ρ k ⟨b, blk, hb, _⟩ => by simp at hb
  refine ⟨env', H', ρ', S', ?_, g2, ⟨by simp, fun b hb => by simp at hb, g3.S, g3.keep, g3.new, g3.fix, g3.heap, g3.size, g3.os, g3.tape, g3.output⟩⟩
  cases e <;> simp only [retQ] at g1 ⊢
  all_goals first
    | exact g1.elim
    | (split at g1
       · exact ⟨g1.1, fin_sealNil (P := P) g1.2⟩
       · exact g1.elim)
def exLoop {α : Type} (f : α → LoopO) : LoopO := fun env H Q => ∃ a, f a env H Q
theorem exLoop_rule {P : Program} {nt : Nat} {c : Code} {α : Type} {f : α → LoopO} (h : ∀ a, LRuleP P nt c (f a)) : LRuleP P nt c (exLoop f) := fun env H Q ⟨a, ha⟩ => h a env H Q ha
end Go.VD
end
