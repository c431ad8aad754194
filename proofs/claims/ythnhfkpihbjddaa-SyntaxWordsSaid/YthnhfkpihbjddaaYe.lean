/- The program's words: plain ones. -/
import Derived.Test.YthnhfkpihbjddaaYd
import Derived.Laws.Strings
namespace Go.Proofs.Ythnhfkpihbjddaa
open Go.VD
set_option linter.unusedVariables false
set_option linter.unusedSimpArgs false
set_option maxRecDepth 100000

def letB (n : Nat) : Bool := (decide (65 ≤ n) && decide (n ≤ 90)) || (decide (97 ≤ n) && decide (n ≤ 122))
def markB (n : Nat) : Bool := decide (n = 95) || (decide (n = 45) || (decide (n = 43) || (decide (n = 46) || (decide (n = 47) || decide (n = 58)))))
def plB (n : Nat) : Bool := letB n || (digB n || markB n)
theorem mark_low : ∀ n : Fin 128, decide (0 ≤ mkI ((n.val : Nat) : Int)) = markB n.val := by decide
theorem mark_int (n : Nat) : decide (0 ≤ mkI (n : Int)) = markB n := by
  by_cases h : n < 128
  · exact mark_low ⟨n, h⟩
  · have e1 : mkI (n : Int) = -1 := by unfold mkI; rw [if_neg (by omega)]
    rw [e1]
    unfold markB
    rw [Bool.eq_iff_iff]; simp; omega
theorem let_int (n : Nat) : letI' (n : Int) = letB n := by
  unfold letI' letB
  rw [Bool.eq_iff_iff]; simp; omega
theorem plB_lt (n : Nat) (h : plB n = true) : n < 128 := by
  unfold plB letB digB markB at h; simp at h; omega
def lp_spanPLoop (s : ByteArray) : LoopO := loopRule2 (α := Nat) (β := Unit) (γ := Nat) [some 0] (fun n => n ≤ s.size ∧ ∀ i, i < n → plB (bt s i) = true) (fun n => [(0, .v (.string s)), (1, .fn 83 0 []), (8, .ptr 0 0)]) (fun n => [some ⟨itTy, [.v (.string s), .v (.int .i64 (n : Int))], true⟩]) (0) (fun _ => ∀ i, i < s.size → plB (bt s i) = true) (fun _ => (.exit 0, [(0, .v (.string s))], [])) (fun n => n < s.size ∧ plB (bt s n) = false ∧ ∀ i, i < n → plB (bt s i) = true) (fun n => (.ret, [(4, .v (.int .i64 (n : Int)))], []))
theorem spanPLoop_rule (s : ByteArray) (hpre : s.size ≤ 9223372036854775807) : LRuleP Try.prog Try.f80.ntmps (loopAt ((Try.f80.body).getD .skip) 2) (lp_spanPLoop s) := by
  refine lrule_of2 (α := Nat) (β := Unit) (γ := Nat) (call := (addPure 83 ent_isPlain noCalls)) (lp := fun _ => none) (N := 10) T_ok mixed (addPure_ok ent_isPlain_ok noCalls_ok) (fun n => s.size - n) (by kernel_rfl) (LpAllP.none _) ?_
  intro x hJ
  refine of_eq (B := (pcond (Decidable.decide ((Int.toNat ((x : Nat) : Int)) < (ByteArray.size s))) (True ∧ (True ∧ (True ∧ (True ∧ (True ∧ (True ∧ (True ∧ ((((0 : Int) ≤ (((Prod.fst (Utf8.decode s (Int.toNat ((x : Nat) : Int)))) : Nat) : Int)) ∧ ((((Prod.fst (Utf8.decode s (Int.toNat ((x : Nat) : Int)))) : Nat) : Int) < (2147483648 : Int))) ∧ (True ∧ (pcond (!((letI' (((Prod.fst (Utf8.decode s (Int.toNat ((x : Nat) : Int)))) : Nat) : Int)) || (((Decidable.decide ((48 : Int) ≤ (((Prod.fst (Utf8.decode s (Int.toNat ((x : Nat) : Int)))) : Nat) : Int))) && (Decidable.decide ((((Prod.fst (Utf8.decode s (Int.toNat ((x : Nat) : Int)))) : Nat) : Int) ≤ (57 : Int)))) || (Decidable.decide ((0 : Int) ≤ (mkI (((Prod.fst (Utf8.decode s (Int.toNat ((x : Nat) : Int)))) : Nat) : Int))))))) (True ∧ (True ∧ ((∃ (r : Unit), (∃ (kp : (List (Option Nat))), ((∀ (i : Nat), ((i < (ByteArray.size s)) → ((plB (bt s i)) = Bool.true))) ∧ ((Exit.ret = (Exit.exit (0 : Nat))) ∧ (viewAll kp [(Prod.mk (0 : Nat) (D.v (Value.string s)))] [(Option.some (Blk.mk (1000000007 : Nat) [(D.v (Value.string s)), (D.v (Value.int IntKind.i64 ((((Int.toNat ((x : Nat) : Int)) + (Prod.snd (Utf8.decode s (Int.toNat ((x : Nat) : Int))))) : Nat) : Int)))] Bool.true))] (Prod.fst (Prod.snd ((fun (x_1 : Unit) => (Prod.mk (Exit.exit (0 : Nat)) (Prod.mk [(Prod.mk (0 : Nat) (D.v (Value.string s)))] ([] : List (Option Blk))))) r))) (Prod.snd (Prod.snd ((fun (x_1 : Unit) => (Prod.mk (Exit.exit (0 : Nat)) (Prod.mk [(Prod.mk (0 : Nat) (D.v (Value.string s)))] ([] : List (Option Blk))))) r)))))))) ∨ (∃ (r : Nat), (∃ (kp : (List (Option Nat))), (((r < (ByteArray.size s)) ∧ (((plB (bt s r)) = Bool.false) ∧ (∀ (i : Nat), ((i < r) → ((plB (bt s i)) = Bool.true))))) ∧ ((Exit.ret = Exit.ret) ∧ (viewAll kp [(Prod.mk (4 : Nat) (D.v (Value.int IntKind.i64 ((x : Nat) : Int))))] [(Option.some (Blk.mk (1000000007 : Nat) [(D.v (Value.string s)), (D.v (Value.int IntKind.i64 ((((Int.toNat ((x : Nat) : Int)) + (Prod.snd (Utf8.decode s (Int.toNat ((x : Nat) : Int))))) : Nat) : Int)))] Bool.true))] (Prod.fst (Prod.snd ((fun (n : Nat) => (Prod.mk Exit.ret (Prod.mk [(Prod.mk (4 : Nat) (D.v (Value.int IntKind.i64 ((n : Nat) : Int))))] ([] : List (Option Blk))))) r))) (Prod.snd (Prod.snd ((fun (n : Nat) => (Prod.mk Exit.ret (Prod.mk [(Prod.mk (4 : Nat) (D.v (Value.int IntKind.i64 ((n : Nat) : Int))))] ([] : List (Option Blk))))) r))))))))))) (∃ (y : Nat), (∃ (kp : (List (Option Nat))), ((((ByteArray.size s) - y) < ((ByteArray.size s) - x)) ∧ (((y ≤ (ByteArray.size s)) ∧ (∀ (i : Nat), ((i < y) → ((plB (bt s i)) = Bool.true)))) ∧ (viewAll kp [(Prod.mk (0 : Nat) (D.v (Value.string s))), (Prod.mk (1 : Nat) (D.fn (83 : Nat) (0 : Nat) ([] : List D))), (Prod.mk (8 : Nat) (D.ptr (0 : Nat) (0 : Nat)))] [(Option.some (Blk.mk (1000000007 : Nat) [(D.v (Value.string s)), (D.v (Value.int IntKind.i64 ((((Int.toNat ((x : Nat) : Int)) + (Prod.snd (Utf8.decode s (Int.toNat ((x : Nat) : Int))))) : Nat) : Int)))] Bool.true))] [(Prod.mk (0 : Nat) (D.v (Value.string s))), (Prod.mk (1 : Nat) (D.fn (83 : FuncId) (0 : Nat) ([] : List D))), (Prod.mk (8 : Nat) (D.ptr (0 : Nat) (0 : Nat)))] [(Option.some (Blk.mk itTy [(D.v (Value.string s)), (D.v (Value.int IntKind.i64 ((y : Nat) : Int)))] Bool.true))]))))))))))))))) (True ∧ ((∃ (r : Unit), (∃ (kp : (List (Option Nat))), ((∀ (i : Nat), ((i < (ByteArray.size s)) → ((plB (bt s i)) = Bool.true))) ∧ (((Exit.exit (0 : Nat)) = (Exit.exit (0 : Nat))) ∧ (viewAll kp [(Prod.mk (0 : Nat) (D.v (Value.string s)))] [(Option.some (Blk.mk (1000000007 : Nat) [(D.v (Value.string s)), (D.v (Value.int IntKind.i64 ((x : Nat) : Int)))] Bool.true))] (Prod.fst (Prod.snd ((fun (x_1 : Unit) => (Prod.mk (Exit.exit (0 : Nat)) (Prod.mk [(Prod.mk (0 : Nat) (D.v (Value.string s)))] ([] : List (Option Blk))))) r))) (Prod.snd (Prod.snd ((fun (x_1 : Unit) => (Prod.mk (Exit.exit (0 : Nat)) (Prod.mk [(Prod.mk (0 : Nat) (D.v (Value.string s)))] ([] : List (Option Blk))))) r)))))))) ∨ (∃ (r : Nat), (∃ (kp : (List (Option Nat))), (((r < (ByteArray.size s)) ∧ (((plB (bt s r)) = Bool.false) ∧ (∀ (i : Nat), ((i < r) → ((plB (bt s i)) = Bool.true))))) ∧ (((Exit.exit (0 : Nat)) = Exit.ret) ∧ (viewAll kp ([] : List (Prod Nat D)) [(Option.some (Blk.mk (1000000007 : Nat) [(D.v (Value.string s)), (D.v (Value.int IntKind.i64 ((x : Nat) : Int)))] Bool.true))] (Prod.fst (Prod.snd ((fun (n : Nat) => (Prod.mk Exit.ret (Prod.mk [(Prod.mk (4 : Nat) (D.v (Value.int IntKind.i64 ((n : Nat) : Int))))] ([] : List (Option Blk))))) r))) (Prod.snd (Prod.snd ((fun (n : Nat) => (Prod.mk Exit.ret (Prod.mk [(Prod.mk (4 : Nat) (D.v (Value.int IntKind.i64 ((n : Nat) : Int))))] ([] : List (Option Blk))))) r)))))))))))) (by kernel_rfl) ?_
  simp only [true_and, and_true, and_self, IsInt_lit, IsBool_lit, IsStr_lit, Bool.not_eq_true', Bool.not_eq_false', Bool.not_true, Bool.not_false, Int.reduceLE, Int.reduceLT, Int.reduceNeg, Nat.le_refl, Int.le_refl, Nat.reduceLT, Nat.reduceLeDiff, Nat.reduceEqDiff, D.v.injEq, D.tup.injEq, D.agg.injEq, D.ro.injEq, List.cons.injEq, Value.int.injEq, Value.bool.injEq, pcond_true, pcond_false, NamelessL, Nameless, Nat.reduceMul, Nat.reduceAdd, Nat.zero_add, Int.toNat_natCast] at *
  obtain ⟨hx, hall⟩ := hJ
  obtain ⟨p1, p2⟩ := dec_pred plB_lt s x
  have hd : 0 ≤ (((Utf8.decode s x).1 : Nat) : Int) ∧ (((Utf8.decode s x).1 : Nat) : Int) < 2147483648 := by
    refine ⟨Int.natCast_nonneg _, ?_⟩
    by_cases h : bt s x < 128
    · rw [dec_ascii h]; simp only; omega
    · have := (dec_high (show 128 ≤ bt s x by omega) (bt_lt s x)).2; omega
  rw [let_int, digB_int, mark_int]
  rw [show (letB (Utf8.decode s x).1 || (digB (Utf8.decode s x).1 || markB (Utf8.decode s x).1)) = plB (bt s x) from p1]
  refine pcond_intro (fun h => ⟨hd, ?_⟩) (fun h => .inl ⟨(), [], ?_, ?_⟩)
  · simp only [decide_eq_true_eq] at h
    refine pcond_intro (fun h1 => .inr ⟨x, [], ⟨h, by simpa using h1, hall⟩, ?_⟩) (fun h1 => ⟨x + 1, [some 0], by omega, ⟨by omega, fun i hi => ?_⟩, ?_⟩)
    · refine of_eq (B := ((Bool.true = Bool.true) ∧ ((([] : List (Option Blk)) = ([] : List (Option Blk))) ∧ ((True ∧ ((D.v (Value.int IntKind.i64 ((x : Nat) : Int))) = (D.v (Value.int IntKind.i64 ((x : Nat) : Int))))) ∧ True)))) (by kernel_rfl) ?_
      simp
    · rcases Nat.lt_or_ge i x with h2 | h2
      · exact hall i h2
      · rw [show i = x by omega]; simpa using h1
    · have h1 : plB (bt s x) = true := by simpa using h1
      rw [p2 h1]
      refine of_eq (B := ((Bool.true = Bool.true) ∧ (((((Option.some (Blk.mk (1000000007 : Nat) [(D.v (Value.string s)), (D.v (Value.int IntKind.i64 (((x + (1 : Nat)) : Nat) : Int)))] Bool.true)) = (Option.some (Blk.mk (1000000007 : Nat) [(D.v (Value.string s)), (D.v (Value.int IntKind.i64 (((x + (1 : Nat)) : Nat) : Int)))] Bool.true))) ∧ (NamelessL [(D.v (Value.string s)), (D.v (Value.int IntKind.i64 (((x + (1 : Nat)) : Nat) : Int)))])) ∧ (([] : List (Option Blk)) = ([] : List (Option Blk)))) ∧ ((True ∧ ((D.v (Value.string s)) = (D.v (Value.string s)))) ∧ ((True ∧ ((D.fn (83 : Nat) (0 : Nat) ([] : List D)) = (D.fn (83 : Nat) (0 : Nat) ([] : List D)))) ∧ ((True ∧ ((D.ptr (0 : Nat) (0 : Nat)) = (D.ptr (0 : Nat) (0 : Nat)))) ∧ True)))))) (by kernel_rfl) ?_
      simp [NamelessL, Nameless]
  · simp only [decide_eq_false_iff_not] at h
    intro i hi
    exact hall i (by omega)
  · refine of_eq (B := ((Bool.true = Bool.true) ∧ ((([] : List (Option Blk)) = ([] : List (Option Blk))) ∧ ((True ∧ ((D.v (Value.string s)) = (D.v (Value.string s)))) ∧ True)))) (by kernel_rfl) ?_
    simp
theorem spanP_pure (s : ByteArray) (hpre : s.size ≤ 9223372036854775807) : PureJ Try.prog 80 [.v (.string s), .fn 83 0 []] (.v (.int .i64 (spN plB s : Nat))) := by
  refine pureJ_of_vcp (call := noCalls) (lp := fun k => bif Nat.beq k 2 then some (lp_spanPLoop s) else none) (N := 10) T_ok mixed noCalls_ok Try.func80 rfl (by decide) (by kernel_rfl) (by kernel_rfl) (of_eq (B := LRuleP Try.prog Try.f80.ntmps (loopAt ((Try.f80.body).getD .skip) 2) (lp_spanPLoop s) ∧ True) (by kernel_rfl) ⟨spanPLoop_rule s hpre, trivial⟩) (by first | trivial | (simp only [NamelessL, Nameless, and_self, and_true, true_and]; done) | (simp [NamelessL, Nameless, u32s_nameless, namelessL_ints]; done)) (by first | trivial | (simp only [NamelessL, Nameless, and_self, and_true, true_and]; done) | (simp [NamelessL, Nameless, u32s_nameless, namelessL_ints]; done)) ?_
  refine of_eq (B := (True ∧ (True ∧ (True ∧ ((((0 : Nat) ≤ (ByteArray.size s)) ∧ (∀ (i : Nat), ((i < (0 : Nat)) → ((plB (bt s i)) = Bool.true)))) ∧ (((Bool.true = Bool.true) ∧ (((((Option.some (Blk.mk (1000000007 : Nat) [(D.v (Value.string s)), (D.v (Value.int IntKind.i64 (0 : Int)))] Bool.true)) = (Option.some (Blk.mk (1000000007 : Nat) [(D.v (Value.string s)), (D.v (Value.int IntKind.i64 (0 : Int)))] Bool.true))) ∧ (NamelessL [(D.v (Value.string s)), (D.v (Value.int IntKind.i64 (0 : Int)))])) ∧ (([] : List (Option Blk)) = ([] : List (Option Blk)))) ∧ ((True ∧ ((D.v (Value.string s)) = (D.v (Value.string s)))) ∧ ((True ∧ ((D.fn (83 : Nat) (0 : Nat) ([] : List D)) = (D.fn (83 : Nat) (0 : Nat) ([] : List D)))) ∧ ((True ∧ ((D.ptr (0 : Nat) (0 : Nat)) = (D.ptr (0 : Nat) (0 : Nat)))) ∧ True))))) ∧ ((Unit → ((∀ (i : Nat), ((i < (ByteArray.size s)) → ((plB (bt s i)) = Bool.true))) → (True ∧ (True ∧ (True ∧ (True ∧ (True ∧ ((D.v (Value.int IntKind.i64 (((ByteArray.size s) : Nat) : Int))) = (D.v (Value.int IntKind.i64 (((spN plB s) : Nat) : Int))))))))))) ∧ (∀ (r : Nat), (((r < (ByteArray.size s)) ∧ (((plB (bt s r)) = Bool.false) ∧ (∀ (i : Nat), ((i < r) → ((plB (bt s i)) = Bool.true))))) → (True ∧ (True ∧ ((D.v (Value.int IntKind.i64 ((r : Nat) : Int))) = (D.v (Value.int IntKind.i64 (((spN plB s) : Nat) : Int))))))))))))))) (by kernel_rfl) ?_
  simp only [true_and, and_true, and_self, IsInt_lit, IsBool_lit, IsStr_lit, Bool.not_eq_true', Bool.not_eq_false', Bool.not_true, Bool.not_false, Int.reduceLE, Int.reduceLT, Int.reduceNeg, Nat.le_refl, Int.le_refl, Nat.reduceLT, Nat.reduceLeDiff, Nat.reduceEqDiff, D.v.injEq, D.tup.injEq, D.agg.injEq, D.ro.injEq, List.cons.injEq, Value.int.injEq, Value.bool.injEq, pcond_true, pcond_false, NamelessL, Nameless, Nat.reduceMul, Nat.reduceAdd, Nat.zero_add, Int.toNat_natCast]
  refine ⟨⟨Nat.zero_le _, fun i h => absurd h (Nat.not_lt_zero _)⟩, fun _ h => by rw [spN_all h], fun r h => by rw [spN_at h.1 h.2.1 h.2.2]⟩
def ent_spanP : Ent := fun ds => match ds with
  | [.v (.string s), .fn 83 0 []] => some (.v (.int .i64 (spN plB s : Nat)), s.size ≤ 9223372036854775807)
  | _ => none
theorem ent_spanP_ok : EntOk Try.prog 80 ent_spanP := by
  intro ds d c h hc; unfold ent_spanP at h; split at h
  · obtain ⟨rfl, rfl⟩ := pair_inj h; exact spanP_pure _ hc
  · cases h
theorem empty_dec (s : ByteArray) : (s.toList == []) = decide (s.size = 0) := by
  rw [ByteArray.toList_eq, size_list]
  generalize s.data.toList = l
  cases l <;> simp
theorem hPlain_pure (s : ByteArray) (hpre : s.size ≤ 9223372036854775807) : PureJ Try.prog 46 [.v (.string s)] (.v (.bool (decide (s.size ≠ 0) && decide (spN plB s = s.size)))) := by
  refine pureJ_of_vcx (call := (addPure 80 ent_spanP noCalls)) (lp := fun _ => none) (N := 10) T_ok mixed (addPure_ok ent_spanP_ok noCalls_ok) Try.func46 rfl (by decide) (by kernel_rfl) (by kernel_rfl) (LpAll.none _) (by first | trivial | (simp only [NamelessL, Nameless, and_self, and_true, true_and]; done) | (simp [NamelessL, Nameless, u32s_nameless, namelessL_ints]; done)) (by first | trivial | (simp only [NamelessL, Nameless, and_self, and_true, true_and]; done) | (simp [NamelessL, Nameless, u32s_nameless, namelessL_ints]; done)) ?_
  refine of_eq (B := (True ∧ (True ∧ (True ∧ (True ∧ (pcond (!((ByteArray.toList s) == ([] : List UInt8))) (True ∧ (((ByteArray.size s) ≤ (9223372036854775807 : Nat)) ∧ (True ∧ (True ∧ (True ∧ (True ∧ (True ∧ (True ∧ (True ∧ ((D.v (Value.bool ((((spN plB s) : Nat) : Int) == (((ByteArray.size s) : Nat) : Int)))) = (D.v (Value.bool ((Decidable.decide ((ByteArray.size s) ≠ (0 : Nat))) && (Decidable.decide ((spN plB s) = (ByteArray.size s)))))))))))))))) (True ∧ (True ∧ (True ∧ (True ∧ ((D.v (Value.bool Bool.false)) = (D.v (Value.bool ((Decidable.decide ((ByteArray.size s) ≠ (0 : Nat))) && (Decidable.decide ((spN plB s) = (ByteArray.size s))))))))))))))))) (by kernel_rfl) ?_
  simp only [true_and, and_true, and_self, IsInt_lit, IsBool_lit, IsStr_lit, Bool.not_eq_true', Bool.not_eq_false', Bool.not_true, Bool.not_false, Int.reduceLE, Int.reduceLT, Int.reduceNeg, Nat.le_refl, Int.le_refl, Nat.reduceLT, Nat.reduceLeDiff, Nat.reduceEqDiff, D.v.injEq, D.tup.injEq, D.agg.injEq, D.ro.injEq, List.cons.injEq, Value.int.injEq, Value.bool.injEq, pcond_true, pcond_false, NamelessL, Nameless, Nat.reduceMul, Nat.reduceAdd, Nat.zero_add, Int.toNat_natCast]
  rw [empty_dec]
  refine pcond_intro (fun h => ⟨hpre, ?_⟩) (fun h => ?_)
  · simp only [Bool.not_eq_true', decide_eq_false_iff_not] at h
    rw [decide_eq_true (show s.size ≠ 0 from h), Bool.true_and, Bool.eq_iff_iff, beq_iff_eq, decide_eq_true_eq]
    omega
  · simp only [Bool.not_eq_false', decide_eq_true_eq] at h
    rw [decide_eq_false (show ¬ s.size ≠ 0 by omega)]; rfl
def ent_hPlain : Ent := fun ds => match ds with
  | [.v (.string s)] => some (.v (.bool (decide (s.size ≠ 0) && decide (spN plB s = s.size))), s.size ≤ 9223372036854775807)
  | _ => none
theorem ent_hPlain_ok : EntOk Try.prog 46 ent_hPlain := by
  intro ds d c h hc; unfold ent_hPlain at h; split at h
  · obtain ⟨rfl, rfl⟩ := pair_inj h; exact hPlain_pure _ hc
  · cases h
end Go.Proofs.Ythnhfkpihbjddaa
