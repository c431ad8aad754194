import Derived.Test.YtahiigfpikohgaaZUo10
import Derived.Test.YtahiigfpikohgaaZUo12
section
namespace Go.Proofs.Ytahiigfpikohgaa
open Go.VD
set_option linter.unusedVariables false
set_option linter.unusedSimpArgs false
set_option maxRecDepth 100000
def qB (n : Nat) : Bool := decide (32 ≤ n) && (decide (n ≤ 126) && !decide (n = 34))
def qI (c : Int) : Bool := decide (32 ≤ c) && (decide (c ≤ 126) && !decide (c = 34))
theorem q_int (n : Nat) : qI (n : Int) = qB n := by
  unfold qI qB
  rw [Bool.eq_iff_iff]; simp; omega
theorem qB_lt (n : Nat) (h : qB n = true) : n < 128 := by
  unfold qB at h; simp at h; omega
theorem isQuotable_pure (c : Int) : PureJ Try.prog 37 [.v (.int .i32 c)] (.v (.bool (qI c))) := by
  refine pureJ_of_vcx (call := noCalls) (lp := fun _ => none) (N := 10) T_ok mixed noCalls_ok Try.func37 rfl (by decide) (by kernel_rfl) (by kernel_rfl) (LpAll.none _) (by first | trivial | (simp only [NamelessL, Nameless, and_self, and_true, true_and]; done) | (simp [NamelessL, Nameless, u32s_nameless, namelessL_ints]; done)) (by first | trivial | (simp only [NamelessL, Nameless, and_self, and_true, true_and]; done) | (simp [NamelessL, Nameless, u32s_nameless, namelessL_ints]; done)) ?_
  refine of_eq (B := letI z1 := (D.v (Value.bool (qI c))); letI z0 := (True ∧ (True ∧ (True ∧ (True ∧ ((D.v (Value.bool Bool.false)) = z1))))); (True ∧ (True ∧ (True ∧ (True ∧ (pcond (Decidable.decide ((32 : Int) ≤ c)) (True ∧ (True ∧ (True ∧ (True ∧ (pcond (Decidable.decide (c ≤ (126 : Int))) (True ∧ (True ∧ (True ∧ (True ∧ (True ∧ (True ∧ ((D.v (Value.bool (c != (34 : Int)))) = z1))))))) z0))))) (True ∧ (True ∧ z0)))))))) (by kernel_rfl) ?_
  simp only [true_and, and_true, and_self, IsInt_lit, IsBool_lit, IsStr_lit, IsSl_lit, cellN_lit, cellL_lit, Bool.not_eq_true', Bool.not_eq_false', Bool.not_true, Bool.not_false, Int.reduceLE, Int.reduceLT, Int.reduceNeg, Nat.le_refl, Int.le_refl, Nat.reduceLT, Nat.reduceLeDiff, Nat.reduceEqDiff, D.v.injEq, D.tup.injEq, D.agg.injEq, D.ro.injEq, List.cons.injEq, Value.int.injEq, Value.bool.injEq, pcond_true, pcond_false, NamelessL, Nameless, Nat.reduceMul, Nat.reduceAdd, Nat.zero_add, Int.toNat_natCast]
  unfold qI
  by_cases h1 : (32 : Int) ≤ c <;> by_cases h2 : c ≤ 126 <;> by_cases h3 : c = 34 <;> simp [pcond, h1, h2, h3]
def ent_isQuotable : Ent := fun ds => match ds with
  | [.v (.int .i32 c)] => some (.v (.bool (qI c)), True)
  | _ => none
theorem ent_isQuotable_ok : EntOk Try.prog 37 ent_isQuotable := by
  intro ds d c h hc; unfold ent_isQuotable at h; split at h
  · obtain ⟨rfl, rfl⟩ := pair_inj h; exact isQuotable_pure _
  · cases h
def lp_spanQLoop (s : ByteArray) : LoopO := loopRule2 (α := Nat) (β := Unit) (γ := Nat) [some 0] (fun n => n ≤ s.size ∧ ∀ i, i < n → qB (bt s i) = true) (fun n => [(0, .v (.string s)), (1, .fn 37 0 []), (8, .ptr 0 0)]) (fun n => [some ⟨itTy, [.v (.string s), .v (.int .i64 (n : Int))], true⟩]) (0) (fun _ => ∀ i, i < s.size → qB (bt s i) = true) (fun _ => (.exit 0, [(0, .v (.string s))], [])) (fun n => n < s.size ∧ qB (bt s n) = false ∧ ∀ i, i < n → qB (bt s i) = true) (fun n => (.ret, [(4, .v (.int .i64 (n : Int)))], []))
theorem spanQLoop_rule (s : ByteArray) (hpre : s.size ≤ 9223372036854775807) : LRuleP Try.prog Try.f36.ntmps (loopAt ((Try.f36.body).getD .skip) 2) (lp_spanQLoop s) := by
  refine lrule_of2 (α := Nat) (β := Unit) (γ := Nat) (call := (addPure 37 ent_isQuotable noCalls)) (lp := fun _ => none) (N := 10) T_ok mixed (addPure_ok ent_isQuotable_ok noCalls_ok) (fun n => s.size - n) (by kernel_rfl) (LpAllP.none _) ?_
  intro x hJ
  refine of_eq (B := letI z9 := (D.v (Value.string s)); letI z6 := (Int.toNat ((x : Nat) : Int)); letI z0 := (Option.some (Blk.mk (1000000007 : Nat) [z9, (D.v (Value.int IntKind.i64 (((z6 + (Prod.snd (Utf8.decode s z6))) : Nat) : Int)))] Bool.true)); letI z7 := (Exit.exit (0 : Nat)); letI z2 := (Prod.mk (0 : Nat) z9); letI z5 := ([] : List (Option Blk)); letI z1 := (Prod.mk z7 (Prod.mk [z2] z5)); letI z10 := (D.v (Value.int IntKind.i64 ((x : Nat) : Int))); letI z3 := (Option.some (Blk.mk (1000000007 : Nat) [z9, z10] Bool.true)); letI z4 := ByteArray.size s; letI z8 := (List (Option Nat)); letI z11 := (Prod.mk (8 : Nat) (D.ptr (0 : Nat) (0 : Nat))); (pcond (Decidable.decide (z6 < z4)) (True ∧ (True ∧ (True ∧ (True ∧ (True ∧ (True ∧ (True ∧ (True ∧ (True ∧ (pcond (!(qI (((Prod.fst (Utf8.decode s z6)) : Nat) : Int))) (True ∧ (True ∧ ((∃ (r : Unit), (∃ (kp : z8), ((∀ (i : Nat), ((i < z4) → ((qB (bt s i)) = Bool.true))) ∧ ((Exit.ret = z7) ∧ (viewAll kp [z2] [z0] (Prod.fst (Prod.snd ((fun (x_1 : Unit) => z1) r))) (Prod.snd (Prod.snd ((fun (x_1 : Unit) => z1) r)))))))) ∨ (∃ (r : Nat), (∃ (kp : z8), (((r < z4) ∧ (((qB (bt s r)) = Bool.false) ∧ (∀ (i : Nat), ((i < r) → ((qB (bt s i)) = Bool.true))))) ∧ ((Exit.ret = Exit.ret) ∧ (viewAll kp [(Prod.mk (4 : Nat) z10)] [z0] (Prod.fst (Prod.snd ((fun (n : Nat) => (Prod.mk Exit.ret (Prod.mk [(Prod.mk (4 : Nat) (D.v (Value.int IntKind.i64 ((n : Nat) : Int))))] z5))) r))) (Prod.snd (Prod.snd ((fun (n : Nat) => (Prod.mk Exit.ret (Prod.mk [(Prod.mk (4 : Nat) (D.v (Value.int IntKind.i64 ((n : Nat) : Int))))] z5))) r))))))))))) (∃ (y : Nat), (∃ (kp : z8), (((z4 - y) < (z4 - x)) ∧ (((y ≤ z4) ∧ (∀ (i : Nat), ((i < y) → ((qB (bt s i)) = Bool.true)))) ∧ (viewAll kp [z2, (Prod.mk (1 : Nat) (D.fn (37 : Nat) (0 : Nat) ([] : List D))), z11] [z0] [z2, (Prod.mk (1 : Nat) (D.fn (37 : FuncId) (0 : Nat) ([] : List D))), z11] [(Option.some (Blk.mk itTy [z9, (D.v (Value.int IntKind.i64 ((y : Nat) : Int)))] Bool.true))]))))))))))))))) (True ∧ ((∃ (r : Unit), (∃ (kp : z8), ((∀ (i : Nat), ((i < z4) → ((qB (bt s i)) = Bool.true))) ∧ ((z7 = z7) ∧ (viewAll kp [z2] [z3] (Prod.fst (Prod.snd ((fun (x_1 : Unit) => z1) r))) (Prod.snd (Prod.snd ((fun (x_1 : Unit) => z1) r)))))))) ∨ (∃ (r : Nat), (∃ (kp : z8), (((r < z4) ∧ (((qB (bt s r)) = Bool.false) ∧ (∀ (i : Nat), ((i < r) → ((qB (bt s i)) = Bool.true))))) ∧ ((z7 = Exit.ret) ∧ (viewAll kp ([] : List (Prod Nat D)) [z3] (Prod.fst (Prod.snd ((fun (n : Nat) => (Prod.mk Exit.ret (Prod.mk [(Prod.mk (4 : Nat) (D.v (Value.int IntKind.i64 ((n : Nat) : Int))))] z5))) r))) (Prod.snd (Prod.snd ((fun (n : Nat) => (Prod.mk Exit.ret (Prod.mk [(Prod.mk (4 : Nat) (D.v (Value.int IntKind.i64 ((n : Nat) : Int))))] z5))) r)))))))))))) (by kernel_rfl) ?_
  simp only [true_and, and_true, and_self, IsInt_lit, IsBool_lit, IsStr_lit, IsSl_lit, cellN_lit, cellL_lit, Bool.not_eq_true', Bool.not_eq_false', Bool.not_true, Bool.not_false, Int.reduceLE, Int.reduceLT, Int.reduceNeg, Nat.le_refl, Int.le_refl, Nat.reduceLT, Nat.reduceLeDiff, Nat.reduceEqDiff, D.v.injEq, D.tup.injEq, D.agg.injEq, D.ro.injEq, List.cons.injEq, Value.int.injEq, Value.bool.injEq, pcond_true, pcond_false, NamelessL, Nameless, Nat.reduceMul, Nat.reduceAdd, Nat.zero_add, Int.toNat_natCast] at *
  obtain ⟨hx, hall⟩ := hJ
  obtain ⟨p1, p2⟩ := dec_pred qB_lt s x
  rw [q_int, p1]
  refine pcond_intro (fun h => ?_) (fun h => .inl ⟨(), [], ?_, ?_⟩)
  · simp only [decide_eq_true_eq] at h
    refine pcond_intro (fun h1 => .inr ⟨x, [], ⟨h, by simpa using h1, hall⟩, ?_⟩) (fun h1 => ⟨x + 1, [some 0], by omega, ⟨by omega, fun i hi => ?_⟩, ?_⟩)
    · refine of_eq (B := letI z0 := (D.v (Value.int IntKind.i64 ((x : Nat) : Int))); letI z1 := ([] : List (Option Blk)); ((Bool.true = Bool.true) ∧ ((z1 = z1) ∧ ((True ∧ (z0 = z0)) ∧ True)))) (by kernel_rfl) ?_
      simp
    · rcases Nat.lt_or_ge i x with h2 | h2
      · exact hall i h2
      · rw [show i = x by omega]; simpa using h1
    · have h1 : qB (bt s x) = true := by simpa using h1
      rw [p2 h1]
      refine of_eq (B := letI z2 := (D.v (Value.string s)); letI z1 := (D.v (Value.int IntKind.i64 (((x + (1 : Nat)) : Nat) : Int))); letI z0 := (Option.some (Blk.mk (1000000007 : Nat) [z2, z1] Bool.true)); letI z3 := (D.fn (37 : Nat) (0 : Nat) ([] : List D)); letI z4 := (D.ptr (0 : Nat) (0 : Nat)); letI z5 := ([] : List (Option Blk)); ((Bool.true = Bool.true) ∧ ((((z0 = z0) ∧ (NamelessL [z2, z1])) ∧ (z5 = z5)) ∧ ((True ∧ (z2 = z2)) ∧ ((True ∧ (z3 = z3)) ∧ ((True ∧ (z4 = z4)) ∧ True)))))) (by kernel_rfl) ?_
      simp [NamelessL, Nameless]
  · simp only [decide_eq_false_iff_not] at h
    intro i hi
    exact hall i (by omega)
  · refine of_eq (B := letI z0 := ([] : List (Option Blk)); letI z1 := (D.v (Value.string s)); ((Bool.true = Bool.true) ∧ ((z0 = z0) ∧ ((True ∧ (z1 = z1)) ∧ True)))) (by kernel_rfl) ?_
    simp
theorem spanQ_pure (s : ByteArray) (hpre : s.size ≤ 9223372036854775807) : PureJ Try.prog 36 [.v (.string s), .fn 37 0 []] (.v (.int .i64 (spN qB s : Nat))) := by
  refine pureJ_of_vcp (call := noCalls) (lp := fun k => bif Nat.beq k 2 then some (lp_spanQLoop s) else none) (N := 10) T_ok mixed noCalls_ok Try.func36 rfl (by decide) (by kernel_rfl) (by kernel_rfl) (of_eq (B := LRuleP Try.prog Try.f36.ntmps (loopAt ((Try.f36.body).getD .skip) 2) (lp_spanQLoop s) ∧ True) (by kernel_rfl) ⟨spanQLoop_rule s hpre, trivial⟩) (by first | trivial | (simp only [NamelessL, Nameless, and_self, and_true, true_and]; done) | (simp [NamelessL, Nameless, u32s_nameless, namelessL_ints]; done)) (by first | trivial | (simp only [NamelessL, Nameless, and_self, and_true, true_and]; done) | (simp [NamelessL, Nameless, u32s_nameless, namelessL_ints]; done)) ?_
  refine of_eq (B := letI z1 := (D.v (Value.string s)); letI z5 := (D.v (Value.int IntKind.i64 (0 : Int))); letI z0 := (Option.some (Blk.mk (1000000007 : Nat) [z1, z5] Bool.true)); letI z2 := (D.v (Value.int IntKind.i64 (((spN qB s) : Nat) : Int))); letI z3 := ByteArray.size s; letI z4 := (D.fn (37 : Nat) (0 : Nat) ([] : List D)); letI z6 := (D.ptr (0 : Nat) (0 : Nat)); letI z7 := ([] : List (Option Blk)); (True ∧ (True ∧ (True ∧ ((((0 : Nat) ≤ z3) ∧ (∀ (i : Nat), ((i < (0 : Nat)) → ((qB (bt s i)) = Bool.true)))) ∧ (((Bool.true = Bool.true) ∧ ((((z0 = z0) ∧ (NamelessL [z1, z5])) ∧ (z7 = z7)) ∧ ((True ∧ (z1 = z1)) ∧ ((True ∧ (z4 = z4)) ∧ ((True ∧ (z6 = z6)) ∧ True))))) ∧ ((Unit → ((∀ (i : Nat), ((i < z3) → ((qB (bt s i)) = Bool.true))) → (True ∧ (True ∧ (True ∧ (True ∧ (True ∧ ((D.v (Value.int IntKind.i64 ((z3 : Nat) : Int))) = z2)))))))) ∧ (∀ (r : Nat), (((r < z3) ∧ (((qB (bt s r)) = Bool.false) ∧ (∀ (i : Nat), ((i < r) → ((qB (bt s i)) = Bool.true))))) → (True ∧ (True ∧ ((D.v (Value.int IntKind.i64 ((r : Nat) : Int))) = z2)))))))))))) (by kernel_rfl) ?_
  simp only [true_and, and_true, and_self, IsInt_lit, IsBool_lit, IsStr_lit, IsSl_lit, cellN_lit, cellL_lit, Bool.not_eq_true', Bool.not_eq_false', Bool.not_true, Bool.not_false, Int.reduceLE, Int.reduceLT, Int.reduceNeg, Nat.le_refl, Int.le_refl, Nat.reduceLT, Nat.reduceLeDiff, Nat.reduceEqDiff, D.v.injEq, D.tup.injEq, D.agg.injEq, D.ro.injEq, List.cons.injEq, Value.int.injEq, Value.bool.injEq, pcond_true, pcond_false, NamelessL, Nameless, Nat.reduceMul, Nat.reduceAdd, Nat.zero_add, Int.toNat_natCast]
  refine ⟨⟨Nat.zero_le _, fun i h => absurd h (Nat.not_lt_zero _)⟩, fun _ h => by rw [spN_all h], fun r h => by rw [spN_at h.1 h.2.1 h.2.2]⟩
def ent_spanQ : Ent := fun ds => match ds with
  | [.v (.string s), .fn 37 0 []] => some (.v (.int .i64 (spN qB s : Nat)), s.size ≤ 9223372036854775807)
  | _ => none
theorem ent_spanQ_ok : EntOk Try.prog 36 ent_spanQ := by
  intro ds d c h hc; unfold ent_spanQ at h; split at h
  · obtain ⟨rfl, rfl⟩ := pair_inj h; exact spanQ_pure _ hc
  · cases h
def plainOk (s : ByteArray) : Bool := decide (s.size ≠ 0) && decide (spN plB s = s.size)
def wordE (s : ByteArray) (q : Bool) : Int := bif decide (120 < s.size) then 4 else bif q && decide (spN qB s < s.size) then 5 else bif !q && !plainOk s then 6 else 0
theorem hWord_pure (s : ByteArray) (q : Bool) (hpre : s.size ≤ 9223372036854775807) : PureJ Try.prog 28 [.agg [.v (.string s), .v (.bool q)]] (.v (.int .i64 (wordE s q))) := by
  refine pureJ_of_vcx (call := (addPure 36 ent_spanQ (addPure 38 ent_hPlain noCalls))) (lp := fun _ => none) (N := 10) T_ok mixed (addPure_ok ent_spanQ_ok (addPure_ok ent_hPlain_ok noCalls_ok)) Try.func28 rfl (by decide) (by kernel_rfl) (by kernel_rfl) (LpAll.none _) (by first | trivial | (simp only [NamelessL, Nameless, and_self, and_true, true_and]; done) | (simp [NamelessL, Nameless, u32s_nameless, namelessL_ints]; done)) (by first | trivial | (simp only [NamelessL, Nameless, and_self, and_true, true_and]; done) | (simp [NamelessL, Nameless, u32s_nameless, namelessL_ints]; done)) ?_
  refine of_eq (B := letI z5 := (((1 : Nat) < (2 : Nat)) ∧ (IsBool (D.v (Value.bool q)))); letI z1 := (((0 : Nat) < (2 : Nat)) ∧ (IsStr (D.v (Value.string s)))); letI z4 := ByteArray.size s; letI z6 := (z4 ≤ (9223372036854775807 : Nat)); letI z2 := (D.v (Value.int IntKind.i64 (wordE s q))); letI z3 := (True ∧ (True ∧ (True ∧ ((D.v (Value.int IntKind.i64 (0 : Int))) = z2)))); letI z0 := (True ∧ (z5 ∧ (True ∧ (True ∧ (pcond (!q) (True ∧ (z1 ∧ (z6 ∧ (True ∧ (True ∧ (True ∧ (pcond (!((Decidable.decide (z4 ≠ (0 : Nat))) && (Decidable.decide ((spN plB s) = z4)))) (True ∧ (True ∧ (True ∧ ((D.v (Value.int IntKind.i64 (6 : Int))) = z2)))) z3))))))) (True ∧ (True ∧ z3))))))); letI z7 := Bool.true = Bool.true; (True ∧ (True ∧ (True ∧ (z1 ∧ (True ∧ (True ∧ (True ∧ (pcond (Decidable.decide ((120 : Int) < ((z4 : Nat) : Int))) (True ∧ (True ∧ (True ∧ ((D.v (Value.int IntKind.i64 (4 : Int))) = z2)))) (True ∧ (z5 ∧ (True ∧ (pcond q (True ∧ (z1 ∧ (z6 ∧ (True ∧ (z1 ∧ (True ∧ (True ∧ (True ∧ (True ∧ (z7 ∧ (pcond (Decidable.decide ((((spN qB s) : Nat) : Int) < ((z4 : Nat) : Int))) (True ∧ (True ∧ (True ∧ ((D.v (Value.int IntKind.i64 (5 : Int))) = z2)))) z0))))))))))) (True ∧ (True ∧ (z7 ∧ z0)))))))))))))))) (by kernel_rfl) ?_
  simp only [true_and, and_true, and_self, IsInt_lit, IsBool_lit, IsStr_lit, IsSl_lit, cellN_lit, cellL_lit, Bool.not_eq_true', Bool.not_eq_false', Bool.not_true, Bool.not_false, Int.reduceLE, Int.reduceLT, Int.reduceNeg, Nat.le_refl, Int.le_refl, Nat.reduceLT, Nat.reduceLeDiff, Nat.reduceEqDiff, D.v.injEq, D.tup.injEq, D.agg.injEq, D.ro.injEq, List.cons.injEq, Value.int.injEq, Value.bool.injEq, pcond_true, pcond_false, NamelessL, Nameless, Nat.reduceMul, Nat.reduceAdd, Nat.zero_add, Int.toNat_natCast]
  have hle : decide ((120 : Int) < (s.size : Int)) = decide (120 < s.size) := by rw [Bool.eq_iff_iff]; simp; omega
  have hle2 : decide ((spN qB s : Int) < (s.size : Int)) = decide (spN qB s < s.size) := by rw [Bool.eq_iff_iff]; simp
  rw [hle, hle2, show (decide (s.size ≠ 0) && decide (spN plB s = s.size)) = plainOk s from rfl]
  unfold wordE
  cases decide (120 < s.size) <;> cases q <;> cases decide (spN qB s < s.size) <;> cases plainOk s <;> simp [pcond, hpre]
def ent_hWord : Ent := fun ds => match ds with
  | [.agg [.v (.string s), .v (.bool q)]] => some (.v (.int .i64 (wordE s q)), s.size ≤ 9223372036854775807)
  | _ => none
theorem ent_hWord_ok : EntOk Try.prog 28 ent_hWord := by
  intro ds d c h hc; unfold ent_hWord at h; split at h
  · obtain ⟨rfl, rfl⟩ := pair_inj h; exact hWord_pure _ _ hc
  · cases h
def headB (s : ByteArray) (q : Bool) : Bool := !q && (decide (s.size ≠ 0) && letB (bt s 0))
theorem bt0_i32 (s : ByteArray) : IntKind.i32.wrap ((s.data.toList.getD 0 0).toNat : Int) = (bt s 0 : Int) := by
  have : (s.data.toList.getD 0 0).toNat < 256 := UInt8.toNat_lt _
  rw [IntKind.wrap_i32]; unfold bt; omega
theorem hBegins_pure (s : ByteArray) (q : Bool) : PureJ Try.prog 27 [.agg [.v (.string s), .v (.bool q)]] (.v (.bool (headB s q))) := by
  refine pureJ_of_vcx (call := (addPure 35 ent_isLetter noCalls)) (lp := fun _ => none) (N := 10) T_ok mixed (addPure_ok ent_isLetter_ok noCalls_ok) Try.func27 rfl (by decide) (by kernel_rfl) (by kernel_rfl) (LpAll.none _) (by first | trivial | (simp only [NamelessL, Nameless, and_self, and_true, true_and]; done) | (simp [NamelessL, Nameless, u32s_nameless, namelessL_ints]; done)) (by first | trivial | (simp only [NamelessL, Nameless, and_self, and_true, true_and]; done) | (simp [NamelessL, Nameless, u32s_nameless, namelessL_ints]; done)) ?_
  refine of_eq (B := (True ∧ (True ∧ (True ∧ ((((1 : Nat) < (2 : Nat)) ∧ (IsBool (D.v (Value.bool q)))) ∧ (True ∧ (True ∧ (pcond (!q) (True ∧ ((((0 : Nat) < (2 : Nat)) ∧ (IsStr (D.v (Value.string s)))) ∧ (True ∧ (True ∧ (True ∧ (pcond (!((ByteArray.toList s) == ([] : List UInt8))) (True ∧ ((((0 : Nat) < (2 : Nat)) ∧ (IsStr (D.v (Value.string s)))) ∧ ((((0 : Int) ≤ (0 : Int)) ∧ ((0 : Int) < (((ByteArray.size s) : Nat) : Int))) ∧ (True ∧ (True ∧ (True ∧ (True ∧ (True ∧ (True ∧ ((D.v (Value.bool (letI' (IntKind.wrap IntKind.i32 (((UInt8.toNat (List.getD (Array.toList (ByteArray.data s)) (0 : Nat) (0 : UInt8))) : Nat) : Int))))) = (D.v (Value.bool (headB s q))))))))))))) (True ∧ (True ∧ (True ∧ (True ∧ ((D.v (Value.bool Bool.false)) = (D.v (Value.bool (headB s q)))))))))))))) (True ∧ (True ∧ (True ∧ (True ∧ (True ∧ (True ∧ ((D.v (Value.bool Bool.false)) = (D.v (Value.bool (headB s q)))))))))))))))))) (by kernel_rfl) ?_
  simp only [true_and, and_true, and_self, IsInt_lit, IsBool_lit, IsStr_lit, IsSl_lit, cellN_lit, cellL_lit, Bool.not_eq_true', Bool.not_eq_false', Bool.not_true, Bool.not_false, Int.reduceLE, Int.reduceLT, Int.reduceNeg, Nat.le_refl, Int.le_refl, Nat.reduceLT, Nat.reduceLeDiff, Nat.reduceEqDiff, D.v.injEq, D.tup.injEq, D.agg.injEq, D.ro.injEq, List.cons.injEq, Value.int.injEq, Value.bool.injEq, pcond_true, pcond_false, NamelessL, Nameless, Nat.reduceMul, Nat.reduceAdd, Nat.zero_add, Int.toNat_natCast]
  rw [empty_dec, bt0_i32, let_int]
  unfold headB
  cases q <;> by_cases h : s.size = 0 <;> simp [pcond, h] <;> omega
def ent_hBegins : Ent := fun ds => match ds with
  | [.agg [.v (.string s), .v (.bool q)]] => some (.v (.bool (headB s q)), True)
  | _ => none
theorem ent_hBegins_ok : EntOk Try.prog 27 ent_hBegins := by
  intro ds d c h hc; unfold ent_hBegins at h; split at h
  · obtain ⟨rfl, rfl⟩ := pair_inj h; exact hBegins_pure _ _
  · cases h
theorem rHead_pure (s : ByteArray) (q : Bool) : PureJ Try.prog 39 [.agg [.v (.string s), .v (.bool q)]] (.v (.bool (headB s q))) := by
  refine pureJ_of_vcx (call := (addPure 50 ent_rletter noCalls)) (lp := fun _ => none) (N := 10) T_ok mixed (addPure_ok ent_rletter_ok noCalls_ok) Try.func39 rfl (by decide) (by kernel_rfl) (by kernel_rfl) (LpAll.none _) (by first | trivial | (simp only [NamelessL, Nameless, and_self, and_true, true_and]; done) | (simp [NamelessL, Nameless, u32s_nameless, namelessL_ints]; done)) (by first | trivial | (simp only [NamelessL, Nameless, and_self, and_true, true_and]; done) | (simp [NamelessL, Nameless, u32s_nameless, namelessL_ints]; done)) ?_
  refine of_eq (B := (True ∧ (True ∧ (True ∧ ((((1 : Nat) < (2 : Nat)) ∧ (IsBool (D.v (Value.bool q)))) ∧ (True ∧ (True ∧ (pcond (!q) (True ∧ ((((0 : Nat) < (2 : Nat)) ∧ (IsStr (D.v (Value.string s)))) ∧ (True ∧ (True ∧ (True ∧ (pcond (!((ByteArray.toList s) == ([] : List UInt8))) (True ∧ ((((0 : Nat) < (2 : Nat)) ∧ (IsStr (D.v (Value.string s)))) ∧ ((((0 : Int) ≤ (0 : Int)) ∧ ((0 : Int) < (((ByteArray.size s) : Nat) : Int))) ∧ (True ∧ (True ∧ (True ∧ (True ∧ (True ∧ ((D.v (Value.bool (letI' (((UInt8.toNat (List.getD (Array.toList (ByteArray.data s)) (0 : Nat) (0 : UInt8))) : Nat) : Int)))) = (D.v (Value.bool (headB s q)))))))))))) (True ∧ (True ∧ (True ∧ (True ∧ ((D.v (Value.bool Bool.false)) = (D.v (Value.bool (headB s q)))))))))))))) (True ∧ (True ∧ (True ∧ (True ∧ (True ∧ (True ∧ ((D.v (Value.bool Bool.false)) = (D.v (Value.bool (headB s q)))))))))))))))))) (by kernel_rfl) ?_
  simp only [true_and, and_true, and_self, IsInt_lit, IsBool_lit, IsStr_lit, IsSl_lit, cellN_lit, cellL_lit, Bool.not_eq_true', Bool.not_eq_false', Bool.not_true, Bool.not_false, Int.reduceLE, Int.reduceLT, Int.reduceNeg, Nat.le_refl, Int.le_refl, Nat.reduceLT, Nat.reduceLeDiff, Nat.reduceEqDiff, D.v.injEq, D.tup.injEq, D.agg.injEq, D.ro.injEq, List.cons.injEq, Value.int.injEq, Value.bool.injEq, pcond_true, pcond_false, NamelessL, Nameless, Nat.reduceMul, Nat.reduceAdd, Nat.zero_add, Int.toNat_natCast]
  rw [empty_dec, show ((s.data.toList.getD 0 0).toNat : Int) = (bt s 0 : Int) from rfl, let_int]
  unfold headB
  cases q <;> by_cases h : s.size = 0 <;> simp [pcond, h] <;> omega
def ent_rHead : Ent := fun ds => match ds with
  | [.agg [.v (.string s), .v (.bool q)]] => some (.v (.bool (headB s q)), True)
  | _ => none
theorem ent_rHead_ok : EntOk Try.prog 39 ent_rHead := by
  intro ds d c h hc; unfold ent_rHead at h; split at h
  · obtain ⟨rfl, rfl⟩ := pair_inj h; exact rHead_pure _ _
  · cases h
def lp_rWordLoop (s : ByteArray) (q : Bool) : LoopO := loopRule2 (α := Nat) (β := Unit) (γ := Unit) [some 0] (fun n => n ≤ s.size ∧ ∀ i, i < n → qB (bt s i) = true) (fun n => [(1, .ptr 0 0), (3, .v (.int .i64 (n : Int)))]) (fun n => [some ⟨51, [.v (.string s), .v (.bool q)], true⟩]) (0) (fun _ => spN qB s = s.size) (fun _ => (.exit 0, [], [])) (fun n => spN qB s < s.size) (fun n => (.ret, [(2, .v (.int .i64 5))], []))
theorem rWordLoop_rule (s : ByteArray) (q : Bool) (hpre : s.size ≤ 9223372036854775807) : LRuleP Try.prog Try.f40.ntmps (loopAt ((Try.f40.body).getD .skip) 8) (lp_rWordLoop s q) := by
  refine lrule_of2 (α := Nat) (β := Unit) (γ := Unit) (call := noCalls) (lp := fun _ => none) (N := 10) T_ok mixed noCalls_ok (fun n => s.size - n) (by kernel_rfl) (LpAllP.none _) ?_
  intro x hJ
  refine of_eq (B := letI z6 := (Prod.mk (2 : Nat) (D.v (Value.int IntKind.i64 (5 : Int)))); letI z18 := ([] : List (Option Blk)); letI z0 := (Prod.mk Exit.ret (Prod.mk [z6] z18)); letI z15 := (D.v (Value.string s)); letI z19 := (D.v (Value.bool q)); letI z1 := (Option.some (Blk.mk (51 : Nat) [z15, z19] Bool.true)); letI z9 := (Exit.exit (0 : Nat)); letI z10 := ([] : List (Prod Nat D)); letI z2 := (Prod.mk z9 (Prod.mk z10 z18)); letI z11 := ((x : Nat) : Int); letI z3 := (((UInt8.toNat (List.getD (Array.toList (ByteArray.data s)) (Int.toNat z11) (0 : UInt8))) : Nat) : Int); letI z4 := ByteArray.size s; letI z5 := (((0 : Nat) < (2 : Nat)) ∧ (IsStr z15)); letI z7 := (((0 : Int) ≤ z11) ∧ (z11 < ((z4 : Nat) : Int))); letI z8 := (List (Option Nat)); letI z12 := (Prod.mk (1 : Nat) (D.ptr (0 : Nat) (0 : Nat))); letI z13 := ((spN qB s) = z4); letI z14 := ((spN qB s) < z4); letI z16 := Exit.ret = Exit.ret; letI z17 := Exit.ret = z9; (True ∧ (True ∧ (z5 ∧ (True ∧ (True ∧ (pcond (Decidable.decide (z11 < ((z4 : Nat) : Int))) (True ∧ (z5 ∧ (True ∧ (z7 ∧ (True ∧ (True ∧ (pcond (Decidable.decide (z3 < (32 : Int))) (True ∧ (True ∧ (True ∧ (True ∧ ((∃ (r : Unit), (∃ (kp : z8), (z13 ∧ (z17 ∧ (viewAll kp z10 [z1] (Prod.fst (Prod.snd ((fun (x_1 : Unit) => z2) r))) (Prod.snd (Prod.snd ((fun (x_1 : Unit) => z2) r)))))))) ∨ (∃ (r : Unit), (∃ (kp : z8), (z14 ∧ (z16 ∧ (viewAll kp [z6] [z1] (Prod.fst (Prod.snd ((fun (n : Unit) => z0) r))) (Prod.snd (Prod.snd ((fun (n : Unit) => z0) r))))))))))))) (True ∧ (z5 ∧ (True ∧ (z7 ∧ (True ∧ (True ∧ (True ∧ (pcond (Decidable.decide ((126 : Int) < z3)) (True ∧ (True ∧ ((∃ (r : Unit), (∃ (kp : z8), (z13 ∧ (z17 ∧ (viewAll kp z10 [z1] (Prod.fst (Prod.snd ((fun (x_1 : Unit) => z2) r))) (Prod.snd (Prod.snd ((fun (x_1 : Unit) => z2) r)))))))) ∨ (∃ (r : Unit), (∃ (kp : z8), (z14 ∧ (z16 ∧ (viewAll kp [z6] [z1] (Prod.fst (Prod.snd ((fun (n : Unit) => z0) r))) (Prod.snd (Prod.snd ((fun (n : Unit) => z0) r))))))))))) (True ∧ (z5 ∧ (True ∧ (z7 ∧ (True ∧ (True ∧ (pcond (z3 == (34 : Int)) (True ∧ ((∃ (r : Unit), (∃ (kp : z8), (z13 ∧ (z17 ∧ (viewAll kp z10 [z1] (Prod.fst (Prod.snd ((fun (x_1 : Unit) => z2) r))) (Prod.snd (Prod.snd ((fun (x_1 : Unit) => z2) r)))))))) ∨ (∃ (r : Unit), (∃ (kp : z8), (z14 ∧ (z16 ∧ (viewAll kp [z6] [z1] (Prod.fst (Prod.snd ((fun (n : Unit) => z0) r))) (Prod.snd (Prod.snd ((fun (n : Unit) => z0) r)))))))))) (True ∧ (True ∧ (True ∧ (∃ (y : Nat), (∃ (kp : z8), (((z4 - y) < (z4 - x)) ∧ (((y ≤ z4) ∧ (∀ (i : Nat), ((i < y) → ((qB (bt s i)) = Bool.true)))) ∧ (viewAll kp [z12, (Prod.mk (3 : Nat) (D.v (Value.int IntKind.i64 (IntKind.wrap IntKind.i64 (z11 + (1 : Int))))))] [z1] [z12, (Prod.mk (3 : Nat) (D.v (Value.int IntKind.i64 ((y : Nat) : Int))))] [(Option.some (Blk.mk (51 : TypeId) [z15, z19] Bool.true))])))))))))))))))))))))))))))))) ((∃ (r : Unit), (∃ (kp : z8), (z13 ∧ ((z9 = z9) ∧ (viewAll kp z10 [z1] (Prod.fst (Prod.snd ((fun (x_1 : Unit) => z2) r))) (Prod.snd (Prod.snd ((fun (x_1 : Unit) => z2) r)))))))) ∨ (∃ (r : Unit), (∃ (kp : z8), (z14 ∧ ((z9 = Exit.ret) ∧ (viewAll kp z10 [z1] (Prod.fst (Prod.snd ((fun (n : Unit) => z0) r))) (Prod.snd (Prod.snd ((fun (n : Unit) => z0) r)))))))))))))))) (by kernel_rfl) ?_
  simp only [true_and, and_true, and_self, IsInt_lit, IsBool_lit, IsStr_lit, IsSl_lit, cellN_lit, cellL_lit, Bool.not_eq_true', Bool.not_eq_false', Bool.not_true, Bool.not_false, Int.reduceLE, Int.reduceLT, Int.reduceNeg, Nat.le_refl, Int.le_refl, Nat.reduceLT, Nat.reduceLeDiff, Nat.reduceEqDiff, D.v.injEq, D.tup.injEq, D.agg.injEq, D.ro.injEq, List.cons.injEq, Value.int.injEq, Value.bool.injEq, pcond_true, pcond_false, NamelessL, Nameless, Nat.reduceMul, Nat.reduceAdd, Nat.zero_add, Int.toNat_natCast] at *
  obtain ⟨hx, hall⟩ := hJ
  have w1 : x < s.size → IntKind.i64.wrap ((x : Int) + 1) = ((x + 1 : Nat) : Int) := fun h => by rw [wrap_i64_of (by omega) (by omega)]; omega
  simp only [show (s.data.toList.getD x 0).toNat = bt s x from rfl]
  have bad : x < s.size → qB (bt s x) = false → spN qB s < s.size := fun h e => by rw [spN_at h e hall]; exact h
  have vw : viewAll [] [(2, D.v (Value.int IntKind.i64 5))] [some { ty := 51, cs := [D.v (Value.string s), D.v (Value.bool q)], full := true }] [(2, D.v (Value.int IntKind.i64 5))] [] := by refine of_eq (B := letI z0 := (D.v (Value.int IntKind.i64 (5 : Int))); letI z1 := ([] : List (Option Blk)); ((Bool.true = Bool.true) ∧ ((z1 = z1) ∧ ((True ∧ (z0 = z0)) ∧ True)))) (by kernel_rfl) ?_; simp
  refine pcond_intro (fun h1 => ?_) (fun h1 => ?_)
  · simp only [decide_eq_true_eq] at h1
    have hxl : x < s.size := by omega
    refine ⟨by omega, pcond_intro (fun h2 => .inr ⟨(), [], bad hxl ?_, vw⟩) (fun h2 => ⟨by omega, pcond_intro (fun h3 => .inr ⟨(), [], bad hxl ?_, vw⟩) (fun h3 => ⟨by omega, pcond_intro (fun h4 => .inr ⟨(), [], bad hxl ?_, vw⟩) (fun h4 => ⟨x + 1, [some 0], by omega, ⟨by omega, fun i hi => ?_⟩, ?_⟩)⟩)⟩)⟩
    · simp only [decide_eq_true_eq] at h2
      unfold qB; rw [decide_eq_false (show ¬ 32 ≤ bt s x by omega)]; rfl
    · simp only [decide_eq_true_eq] at h3
      unfold qB; rw [decide_eq_false (show ¬ bt s x ≤ 126 by omega)]; simp
    · simp only [beq_iff_eq] at h4
      unfold qB; rw [decide_eq_true (show bt s x = 34 by omega)]; simp
    · rcases Nat.lt_or_ge i x with h | h
      · exact hall i h
      · rw [show i = x by omega]
        simp only [decide_eq_false_iff_not, beq_eq_false_iff_ne, ne_eq] at h2 h3 h4
        unfold qB; rw [decide_eq_true (show 32 ≤ bt s x by omega), decide_eq_true (show bt s x ≤ 126 by omega), decide_eq_false (show ¬ bt s x = 34 by omega)]; rfl
    · rw [w1 hxl]
      refine of_eq (B := letI z4 := (D.v (Value.string s)); letI z5 := (D.v (Value.bool q)); letI z0 := (Option.some (Blk.mk (51 : Nat) [z4, z5] Bool.true)); letI z1 := (D.v (Value.int IntKind.i64 (((x + (1 : Nat)) : Nat) : Int))); letI z2 := (D.ptr (0 : Nat) (0 : Nat)); letI z3 := ([] : List (Option Blk)); ((Bool.true = Bool.true) ∧ ((((z0 = z0) ∧ (NamelessL [z4, z5])) ∧ (z3 = z3)) ∧ ((True ∧ (z2 = z2)) ∧ ((True ∧ (z1 = z1)) ∧ True))))) (by kernel_rfl) ?_
      simp [NamelessL, Nameless]
  · simp only [decide_eq_false_iff_not] at h1
    refine .inl ⟨(), [], spN_all fun i hi => hall i (by omega), ?_⟩
    refine of_eq (B := letI z0 := ([] : List (Option Blk)); ((Bool.true = Bool.true) ∧ ((z0 = z0) ∧ True))) (by kernel_rfl) ?_
    trivial
theorem rWord_pure (s : ByteArray) (q : Bool) (hpre : s.size ≤ 9223372036854775807) : PureJ Try.prog 40 [.agg [.v (.string s), .v (.bool q)]] (.v (.int .i64 (wordE s q))) := by
  refine pureJ_of_vcp (call := (addPure 51 ent_rPlain noCalls)) (lp := fun k => bif Nat.beq k 8 then some (lp_rWordLoop s q) else none) (N := 10) T_ok mixed (addPure_ok ent_rPlain_ok noCalls_ok) Try.func40 rfl (by decide) (by kernel_rfl) (by kernel_rfl) (of_eq (B := LRuleP Try.prog Try.f40.ntmps (loopAt ((Try.f40.body).getD .skip) 8) (lp_rWordLoop s q) ∧ True) (by kernel_rfl) ⟨rWordLoop_rule s q hpre, trivial⟩) (by first | trivial | (simp only [NamelessL, Nameless, and_self, and_true, true_and]; done) | (simp [NamelessL, Nameless, u32s_nameless, namelessL_ints]; done)) (by first | trivial | (simp only [NamelessL, Nameless, and_self, and_true, true_and]; done) | (simp [NamelessL, Nameless, u32s_nameless, namelessL_ints]; done)) ?_
  refine of_eq (B := letI z0 := (D.v (Value.int IntKind.i64 (wordE s q))); letI z1 := (D.v (Value.int IntKind.i64 (0 : Int))); letI z2 := ByteArray.size s; letI z4 := (D.v (Value.string s)); letI z7 := (D.v (Value.bool q)); letI z3 := (Option.some (Blk.mk (51 : Nat) [z4, z7] Bool.true)); letI z5 := (True ∧ (True ∧ (True ∧ (z1 = z0)))); letI z6 := (((0 : Nat) < (2 : Nat)) ∧ (IsStr z4)); letI z8 := (D.ptr (0 : Nat) (0 : Nat)); letI z9 := ([] : List (Option Blk)); (True ∧ (True ∧ (True ∧ (z6 ∧ (True ∧ (True ∧ (pcond (Decidable.decide ((120 : Int) < ((z2 : Nat) : Int))) (True ∧ (True ∧ (True ∧ ((D.v (Value.int IntKind.i64 (4 : Int))) = z0)))) (True ∧ ((((1 : Nat) < (2 : Nat)) ∧ (IsBool z7)) ∧ (True ∧ (pcond (!q) (True ∧ (z6 ∧ ((z2 ≤ (9223372036854775807 : Nat)) ∧ (True ∧ (pcond (!((Decidable.decide (z2 ≠ (0 : Nat))) && (Decidable.decide ((spN plB s) = z2)))) (True ∧ (True ∧ (True ∧ ((D.v (Value.int IntKind.i64 (6 : Int))) = z0)))) z5))))) (True ∧ ((((0 : Nat) ≤ z2) ∧ (∀ (i : Nat), ((i < (0 : Nat)) → ((qB (bt s i)) = Bool.true)))) ∧ (((Bool.true = Bool.true) ∧ ((((z3 = z3) ∧ (NamelessL [z4, z7])) ∧ (z9 = z9)) ∧ ((True ∧ (z8 = z8)) ∧ ((True ∧ (z1 = z1)) ∧ True)))) ∧ ((Unit → (((spN qB s) = z2) → z5)) ∧ (Unit → (((spN qB s) < z2) → (True ∧ (True ∧ ((D.v (Value.int IntKind.i64 (5 : Int))) = z0))))))))))))))))))))) (by kernel_rfl) ?_
  simp only [true_and, and_true, and_self, IsInt_lit, IsBool_lit, IsStr_lit, IsSl_lit, cellN_lit, cellL_lit, Bool.not_eq_true', Bool.not_eq_false', Bool.not_true, Bool.not_false, Int.reduceLE, Int.reduceLT, Int.reduceNeg, Nat.le_refl, Int.le_refl, Nat.reduceLT, Nat.reduceLeDiff, Nat.reduceEqDiff, D.v.injEq, D.tup.injEq, D.agg.injEq, D.ro.injEq, List.cons.injEq, Value.int.injEq, Value.bool.injEq, pcond_true, pcond_false, NamelessL, Nameless, Nat.reduceMul, Nat.reduceAdd, Nat.zero_add, Int.toNat_natCast]
  have hle : decide ((120 : Int) < (s.size : Int)) = decide (120 < s.size) := by rw [Bool.eq_iff_iff]; simp; omega
  rw [hle, show (decide (s.size ≠ 0) && decide (spN plB s = s.size)) = plainOk s from rfl]
  unfold wordE
  refine pcond_intro (fun h1 => by rw [h1]; rfl) (fun h1 => pcond_intro (fun h2 => ⟨hpre, ?_⟩) (fun h2 => ⟨⟨Nat.zero_le _, fun i h => absurd h (Nat.not_lt_zero _)⟩, fun _ h => ?_, fun _ h => ?_⟩))
  · rw [h1, show q = false from by simpa using h2]
    cases plainOk s <;> simp [pcond]
  · rw [h1, show q = true from by simpa using h2, h]; simp
  · rw [h1, show q = true from by simpa using h2, decide_eq_true h]; rfl
def ent_rWord : Ent := fun ds => match ds with
  | [.agg [.v (.string s), .v (.bool q)]] => some (.v (.int .i64 (wordE s q)), s.size ≤ 9223372036854775807)
  | _ => none
theorem ent_rWord_ok : EntOk Try.prog 40 ent_rWord := by
  intro ds d c h hc; unfold ent_rWord at h; split at h
  · obtain ⟨rfl, rfl⟩ := pair_inj h; exact rWord_pure _ _ hc
  · cases h
def wordsE : List Wd → Int
  | [] => 0
  | w :: r => bif decide (wordE w.t w.q = 0) then wordsE r else wordE w.t w.q
theorem wordE_nz {s : ByteArray} {q : Bool} : wordE s q = 0 ∨ wordE s q = 4 ∨ wordE s q = 5 ∨ wordE s q = 6 := by
  unfold wordE
  cases decide (120 < s.size) <;> cases (q && decide (spN qB s < s.size)) <;> cases (!q && !plainOk s) <;> simp
theorem wordsE_all : ∀ {l : List Wd}, (∀ j, j < l.length → wordE (l.getD j default).t (l.getD j default).q = 0) → wordsE l = 0
  | [], _ => rfl
  | w :: r, h => by
    rw [wordsE, show wordE w.t w.q = 0 from by simpa using h 0 (by simp)]
    exact wordsE_all (l := r) fun j hj => by simpa using h (j + 1) (by simpa using hj)
theorem wordsE_at : ∀ {l : List Wd} (i : Nat), i < l.length → (∀ j, j < i → wordE (l.getD j default).t (l.getD j default).q = 0) → wordE (l.getD i default).t (l.getD i default).q ≠ 0 → wordsE l = wordE (l.getD i default).t (l.getD i default).q
  | [], i, h, _, _ => by simp at h
  | w :: r, 0, _, _, hn => by
    have hn : wordE w.t w.q ≠ 0 := by simpa using hn
    rw [wordsE, decide_eq_false hn]; rfl
  | w :: r, i + 1, hi, h, hn => by
    rw [wordsE, show wordE w.t w.q = 0 from by simpa using h 0 (by simp)]
    have := wordsE_at (l := r) i (by simpa using hi) (fun j hj => by simpa using h (j + 1) (by simpa using hj)) (by simpa using hn)
    simpa using this
def itemE (x : Itm) : Int := bif decide (x.ws.length = 0) || !headB (x.ws.getD 0 default).t (x.ws.getD 0 default).q then 6 else bif decide (40 < x.ws.length) then 3 else
  bif !decide (wordsE x.ws = 0) then wordsE x.ws else bif !x.bl && decide (0 < x.ks.length) then 12 else 0
end Go.Proofs.Ytahiigfpikohgaa
end
section
namespace Go.Proofs.Ytahiigfpikohgaa
open Go.VD
set_option linter.unusedVariables false
set_option linter.unusedSimpArgs false
set_option maxRecDepth 100000
def lp_hItemLoop (u : Itm) : LoopO := loopRule2 (α := Nat) (β := Unit) (γ := Int) [some 0] (fun i => i ≤ u.ws.length ∧ ∀ j, j < i → wordE (u.ws.getD j default).t (u.ws.getD j default).q = 0) (fun i => [(1, .ptr 0 0), (23, .ro u.ws.length (wordsD u.ws)), (24, .v (.int .i64 (u.ws.length : Int))), (25, .v (.int .i64 (i : Int)))]) (fun _ => [some ⟨36, [.v (.int .i64 u.line), .ro u.ws.length (wordsD u.ws), .v (.bool u.bl), .ro u.ks.length (itemsD u.ks)], true⟩]) (0) (fun _ => wordsE u.ws = 0) (fun _ => (.exit 0, [(1, .ptr 0 0)], [some ⟨36, [.v (.int .i64 u.line), .ro u.ws.length (wordsD u.ws), .v (.bool u.bl), .ro u.ks.length (itemsD u.ks)], true⟩])) (fun e => e ≠ 0 ∧ wordsE u.ws = e) (fun e => (.ret, [(2, .v (.int .i64 e))], []))
theorem hItemLoop_rule (u : Itm) (hpre : okI u) : LRuleP Try.prog Try.f18.ntmps (loopAt ((Try.f18.body).getD .skip) 6) (lp_hItemLoop u) := by
  refine lrule_of2 (α := Nat) (β := Unit) (γ := Int) (call := (addPure 28 ent_hWord noCalls)) (lp := fun _ => none) (N := 10) T_ok mixed (addPure_ok ent_hWord_ok noCalls_ok) (fun i => u.ws.length - i) (by kernel_rfl) (LpAllP.none _) ?_
  intro x hJ
  refine of_eq (B := letI z10 := (Exit.exit (0 : Nat)); letI z7 := (Prod.mk (1 : Nat) (D.ptr (0 : Nat) (0 : Nat))); letI z17 := (D.v (Value.int IntKind.i64 (Itm.line u))); letI z5 := (List.length (Itm.ws u)); letI z8 := (wordsD (Itm.ws u)); letI z21 := (D.v (Value.bool (Itm.bl u))); letI z16 := (D.ro (List.length (Itm.ks u)) (itemsD (Itm.ks u))); letI z6 := (Option.some (Blk.mk (36 : TypeId) [z17, (D.ro z5 z8), z21, z16] Bool.true)); letI z0 := (Prod.mk z10 (Prod.mk [z7] [z6])); letI z1 := (Option.some (Blk.mk (36 : Nat) [z17, (D.ro z5 z8), z21, z16] Bool.true)); letI z9 := ((x : Nat) : Int); letI z14 := ((Int.toNat z9) * (2 : Nat)); letI z3 := (List.getD z8 z14 (Inhabited.default)); letI z4 := (List.getD z8 (z14 + (1 : Nat)) (Inhabited.default)); letI z2 := (Option.some (Blk.mk (51 : Nat) [(D.v (Value.string (cellStr z3))), (D.v (Value.bool (cellBool z4)))] Bool.true)); letI z19 := ((z5 : Nat) : Int); letI z11 := (Prod.mk (24 : Nat) (D.v (Value.int IntKind.i64 z19))); letI z12 := (List (Option Nat)); letI z13 := ([] : List (Option Blk)); letI z15 := (wordsE (Itm.ws u)); letI z18 := (wordE (cellStr z3) (cellBool z4)); letI z20 := (Prod.mk (23 : Nat) (D.ro z5 z8)); letI z22 := ((2 : Nat) ≤ (2 : Nat)); (True ∧ (pcond (Decidable.decide (z9 < z19)) ((((0 : Int) ≤ z9) ∧ (z9 < z19)) ∧ ((((z14 + (2 : Nat)) ≤ (List.length z8)) ∧ ((IsStr z3) ∧ ((IsBool z4) ∧ True))) ∧ (True ∧ ((((2 : Nat) = (2 : Nat)) ∧ z22) ∧ (z22 ∧ (((ByteArray.size (cellStr z3)) ≤ (9223372036854775807 : Nat)) ∧ (True ∧ (True ∧ (True ∧ (pcond (z18 != (0 : Int)) (True ∧ (True ∧ ((∃ (r : Unit), (∃ (kp : z12), ((z15 = (0 : Int)) ∧ ((Exit.ret = z10) ∧ (viewAll kp [z7] [z1, z2] (Prod.fst (Prod.snd ((fun (x_1 : Unit) => z0) r))) (Prod.snd (Prod.snd ((fun (x_1 : Unit) => z0) r)))))))) ∨ (∃ (r : Int), (∃ (kp : z12), (((r ≠ (0 : Int)) ∧ (z15 = r)) ∧ ((Exit.ret = Exit.ret) ∧ (viewAll kp [(Prod.mk (2 : Nat) (D.v (Value.int IntKind.i64 z18)))] [z1, z2] (Prod.fst (Prod.snd ((fun (e : Int) => (Prod.mk Exit.ret (Prod.mk [(Prod.mk (2 : Nat) (D.v (Value.int IntKind.i64 e)))] z13))) r))) (Prod.snd (Prod.snd ((fun (e : Int) => (Prod.mk Exit.ret (Prod.mk [(Prod.mk (2 : Nat) (D.v (Value.int IntKind.i64 e)))] z13))) r))))))))))) (True ∧ (True ∧ (∃ (y : Nat), (∃ (kp : z12), (((z5 - y) < (z5 - x)) ∧ (((y ≤ z5) ∧ (∀ (j : Nat), ((j < y) → ((wordE (Wd.t (List.getD (Itm.ws u) j (Inhabited.default))) (Wd.q (List.getD (Itm.ws u) j (Inhabited.default)))) = (0 : Int))))) ∧ (viewAll kp [z7, z20, z11, (Prod.mk (25 : Nat) (D.v (Value.int IntKind.i64 (IntKind.wrap IntKind.i64 (z9 + (1 : Int))))))] [z1, z2] [z7, z20, z11, (Prod.mk (25 : Nat) (D.v (Value.int IntKind.i64 ((y : Nat) : Int))))] [z6]))))))))))))))))) ((∃ (r : Unit), (∃ (kp : z12), ((z15 = (0 : Int)) ∧ ((z10 = z10) ∧ (viewAll kp [z7] [z1] (Prod.fst (Prod.snd ((fun (x_1 : Unit) => z0) r))) (Prod.snd (Prod.snd ((fun (x_1 : Unit) => z0) r)))))))) ∨ (∃ (r : Int), (∃ (kp : z12), (((r ≠ (0 : Int)) ∧ (z15 = r)) ∧ ((z10 = Exit.ret) ∧ (viewAll kp ([] : List (Prod Nat D)) [z1] (Prod.fst (Prod.snd ((fun (e : Int) => (Prod.mk Exit.ret (Prod.mk [(Prod.mk (2 : Nat) (D.v (Value.int IntKind.i64 e)))] z13))) r))) (Prod.snd (Prod.snd ((fun (e : Int) => (Prod.mk Exit.ret (Prod.mk [(Prod.mk (2 : Nat) (D.v (Value.int IntKind.i64 e)))] z13))) r)))))))))))) (by kernel_rfl) ?_
  simp only [true_and, and_true, and_self, IsInt_lit, IsBool_lit, IsStr_lit, IsSl_lit, cellN_lit, cellL_lit, Bool.not_eq_true', Bool.not_eq_false', Bool.not_true, Bool.not_false, Int.reduceLE, Int.reduceLT, Int.reduceNeg, Nat.le_refl, Int.le_refl, Nat.reduceLT, Nat.reduceLeDiff, Nat.reduceEqDiff, D.v.injEq, D.tup.injEq, D.agg.injEq, D.ro.injEq, List.cons.injEq, Value.int.injEq, Value.bool.injEq, pcond_true, pcond_false, NamelessL, Nameless, Nat.reduceMul, Nat.reduceAdd, Nat.zero_add, Int.toNat_natCast] at *
  obtain ⟨hx, hall⟩ := hJ
  obtain ⟨o1, o2, o3, o4⟩ := okI_parts hpre
  simp only [maxLen] at o1
  refine pcond_intro (fun h1 => ?_) (fun h1 => ?_)
  · simp only [decide_eq_true_eq] at h1
    have hxl : x < u.ws.length := by omega
    obtain ⟨g0, g1⟩ := wordsD_get u.ws x hxl
    have l1 := wordsD_length u.ws
    have hi : IntKind.i64.wrap ((x : Int) + 1) = ((x + 1 : Nat) : Int) := by rw [wrap_i64_of (by omega) (by omega)]; omega
    have hs := okW_get o3 hxl
    simp only [g0, g1, cellStr_lit, cellBool_lit, IsStr_lit, IsBool_lit, hi]
    refine ⟨by omega, ⟨by omega, trivial, trivial⟩, by simpa [maxLen] using hs, pcond_intro (fun h2 => .inr ⟨_, [], ⟨?_, wordsE_at x hxl hall ?_⟩, ?_⟩) (fun h2 => ⟨x + 1, [some 0], by omega, ⟨by omega, fun j hj => ?_⟩, ?_⟩)⟩
    · rw [bne_iff_ne] at h2; exact h2
    · rw [bne_iff_ne] at h2; exact h2
    · refine of_eq (B := letI z1 := (List.getD (Itm.ws u) x (Inhabited.default)); letI z0 := (D.v (Value.int IntKind.i64 (wordE (Wd.t z1) (Wd.q z1)))); letI z2 := ([] : List (Option Blk)); ((Bool.true = Bool.true) ∧ ((z2 = z2) ∧ ((True ∧ (z0 = z0)) ∧ True)))) (by kernel_rfl) ?_; simp
    · rcases Nat.lt_succ_iff_lt_or_eq.1 hj with h | rfl
      · exact hall j h
      · rw [bne_eq_false_iff_eq] at h2; exact h2
    · refine of_eq (B := letI z5 := (D.v (Value.int IntKind.i64 (Itm.line u))); letI z9 := (List.length (Itm.ws u)); letI z1 := (D.ro z9 (wordsD (Itm.ws u))); letI z6 := (D.v (Value.bool (Itm.bl u))); letI z4 := (D.ro (List.length (Itm.ks u)) (itemsD (Itm.ks u))); letI z0 := (Option.some (Blk.mk (36 : Nat) [z5, z1, z6, z4] Bool.true)); letI z2 := (D.v (Value.int IntKind.i64 ((z9 : Nat) : Int))); letI z3 := (D.v (Value.int IntKind.i64 (((x + (1 : Nat)) : Nat) : Int))); letI z7 := (D.ptr (0 : Nat) (0 : Nat)); letI z8 := ([] : List (Option Blk)); ((Bool.true = Bool.true) ∧ ((((z0 = z0) ∧ (NamelessL [z5, z1, z6, z4])) ∧ (z8 = z8)) ∧ ((True ∧ (z7 = z7)) ∧ ((True ∧ (z1 = z1)) ∧ ((True ∧ (z2 = z2)) ∧ ((True ∧ (z3 = z3)) ∧ True))))))) (by kernel_rfl) ?_; simp [NamelessL, Nameless, wordsD_nl, itemsD_nl]
  · simp only [decide_eq_false_iff_not] at h1
    refine .inl ⟨(), [some 0], wordsE_all fun j hj => hall j (by omega), ?_⟩
    refine of_eq (B := letI z3 := (D.v (Value.int IntKind.i64 (Itm.line u))); letI z1 := (D.ro (List.length (Itm.ws u)) (wordsD (Itm.ws u))); letI z4 := (D.v (Value.bool (Itm.bl u))); letI z2 := (D.ro (List.length (Itm.ks u)) (itemsD (Itm.ks u))); letI z0 := (Option.some (Blk.mk (36 : Nat) [z3, z1, z4, z2] Bool.true)); letI z5 := (D.ptr (0 : Nat) (0 : Nat)); letI z6 := ([] : List (Option Blk)); ((Bool.true = Bool.true) ∧ ((((z0 = z0) ∧ (NamelessL [z3, z1, z4, z2])) ∧ (z6 = z6)) ∧ ((True ∧ (z5 = z5)) ∧ True)))) (by kernel_rfl) ?_; simp [NamelessL, Nameless, wordsD_nl, itemsD_nl]
theorem item_goal {u : Itm} (h : okI u) : pcond ((u.ws.length : Int) == 0) (6 = itemE u)
    (0 < (u.ws.length : Int) ∧
      (2 ≤ (wordsD u.ws).length ∧ IsStr ((wordsD u.ws).getD 0 default) ∧ IsBool ((wordsD u.ws).getD 1 default)) ∧
        pcond (!headB (cellStr ((wordsD u.ws).getD 0 default)) (cellBool ((wordsD u.ws).getD 1 default))) (6 = itemE u)
          (pcond (decide (40 < (u.ws.length : Int))) (3 = itemE u)
            ((0 ≤ u.ws.length ∧ ∀ (j : Nat), j < 0 → wordE (u.ws.getD j default).t (u.ws.getD j default).q = 0) ∧
              (NamelessL (wordsD u.ws) ∧ NamelessL (itemsD u.ks)) ∧
                (∀ (r : Unit),
                    wordsE u.ws = 0 →
                      pcond (!u.bl) (pcond (decide (0 < (u.ks.length : Int))) (12 = itemE u) (0 = itemE u)) (0 = itemE u)) ∧
                  ∀ (r : Int), r ≠ 0 ∧ wordsE u.ws = r → r = itemE u))) := by
  have l1 := wordsD_length u.ws
  have e0 : ((u.ws.length : Int) == 0) = decide (u.ws.length = 0) := by rw [Bool.eq_iff_iff]; simp
  have e1 : decide (40 < (u.ws.length : Int)) = decide (40 < u.ws.length) := by rw [Bool.eq_iff_iff]; simp; omega
  have e2 : decide (0 < (u.ks.length : Int)) = decide (0 < u.ks.length) := by rw [Bool.eq_iff_iff]; simp
  rw [e0, e1, e2]
  unfold itemE
  refine pcond_intro (fun h1 => by rw [h1]; rfl) (fun h1 => ?_)
  have h1' := of_decide_eq_false h1
  obtain ⟨g0, g1⟩ := wordsD_get u.ws 0 (by omega)
  simp only [Nat.zero_mul, Nat.zero_add] at g0 g1
  simp only [g0, g1, cellStr_lit, cellBool_lit, IsStr_lit, IsBool_lit]
  refine ⟨by omega, ⟨by omega, trivial, trivial⟩, pcond_intro (fun h2 => by rw [h2, Bool.or_true]; rfl) (fun h2 => pcond_intro (fun h3 => by rw [h1, h2, h3]; rfl) (fun h3 => ⟨⟨Nat.zero_le _, fun j hj => absurd hj (Nat.not_lt_zero _)⟩, ⟨wordsD_nl _, itemsD_nl _⟩, fun _ h4 => ?_, fun r h4 => ?_⟩))⟩
  · rw [h1, h2, h3, decide_eq_true h4]
    cases u.bl <;> cases decide (0 < u.ks.length) <;> simp [pcond]
  · rw [h1, h2, h3, decide_eq_false (show ¬ wordsE u.ws = 0 by rw [h4.2]; exact h4.1), h4.2]; rfl
theorem hItem_pure (u : Itm) (hpre : okI u) : PureJ Try.prog 18 [.agg [.v (.int .i64 u.line), .ro u.ws.length (wordsD u.ws), .v (.bool u.bl), .ro u.ks.length (itemsD u.ks)]] (.v (.int .i64 (itemE u))) := by
  refine pureJ_of_vcp (call := (addPure 27 ent_hBegins noCalls)) (lp := fun k => bif Nat.beq k 6 then some (lp_hItemLoop u) else none) (N := 10) T_ok mixed (addPure_ok ent_hBegins_ok noCalls_ok) Try.func18 rfl (by decide) (by kernel_rfl) (by kernel_rfl) (of_eq (B := LRuleP Try.prog Try.f18.ntmps (loopAt ((Try.f18.body).getD .skip) 6) (lp_hItemLoop u) ∧ True) (by kernel_rfl) ⟨hItemLoop_rule u hpre, trivial⟩) (by first | exact ⟨⟨trivial, wordsD_nl _, trivial, itemsD_nl _, trivial⟩, trivial⟩ | trivial | simp [NamelessL, Nameless]) (by first | exact ⟨⟨trivial, wordsD_nl _, trivial, itemsD_nl _, trivial⟩, trivial⟩ | trivial | simp [NamelessL, Nameless]) ?_
  refine of_eq (B := letI z12 := (D.v (Value.int IntKind.i64 (Itm.line u))); letI z2 := (List.length (Itm.ws u)); letI z3 := (wordsD (Itm.ws u)); letI z8 := (D.v (Value.bool (Itm.bl u))); letI z17 := (List.length (Itm.ks u)); letI z9 := (D.ro z17 (itemsD (Itm.ks u))); letI z0 := (Option.some (Blk.mk (36 : Nat) [z12, (D.ro z2 z3), z8, z9] Bool.true)); letI z1 := (D.v (Value.int IntKind.i64 (itemE u))); letI z4 := (D.v (Value.int IntKind.i64 (0 : Int))); letI z5 := (True ∧ (True ∧ (True ∧ ((D.v (Value.int IntKind.i64 (6 : Int))) = z1)))); letI z6 := ((1 : Nat) < (4 : Nat)); letI z7 := ((z2 : Nat) : Int); letI z10 := (List.getD z3 (0 : Nat) (Inhabited.default)); letI z11 := (List.getD z3 (1 : Nat) (Inhabited.default)); letI z13 := (True ∧ (True ∧ (True ∧ (z4 = z1)))); letI z14 := (D.v (Value.int IntKind.i64 z7)); letI z15 := (D.ptr (0 : Nat) (0 : Nat)); letI z16 := ([] : List (Option Blk)); letI z18 := (wordsE (Itm.ws u)); (True ∧ (True ∧ (True ∧ (z6 ∧ (True ∧ (True ∧ (True ∧ (pcond (z7 == (0 : Int)) (True ∧ z5) (True ∧ (z6 ∧ ((((0 : Int) ≤ (0 : Int)) ∧ ((0 : Int) < z7)) ∧ ((((2 : Nat) ≤ (List.length z3)) ∧ ((IsStr z10) ∧ ((IsBool z11) ∧ True))) ∧ (True ∧ (True ∧ (True ∧ (pcond (!(headB (cellStr z10) (cellBool z11))) z5 (True ∧ (z6 ∧ (True ∧ (True ∧ (pcond (Decidable.decide ((40 : Int) < z7)) (True ∧ (True ∧ (True ∧ ((D.v (Value.int IntKind.i64 (3 : Int))) = z1)))) (True ∧ (z6 ∧ (True ∧ (True ∧ ((((0 : Nat) ≤ z2) ∧ (∀ (j : Nat), ((j < (0 : Nat)) → ((wordE (Wd.t (List.getD (Itm.ws u) j (Inhabited.default))) (Wd.q (List.getD (Itm.ws u) j (Inhabited.default)))) = (0 : Int))))) ∧ (((Bool.true = Bool.true) ∧ ((((z0 = z0) ∧ (NamelessL [z12, (D.ro z2 z3), z8, z9])) ∧ (z16 = z16)) ∧ ((True ∧ (z15 = z15)) ∧ ((True ∧ ((D.ro z2 z3) = (D.ro z2 z3))) ∧ ((True ∧ (z14 = z14)) ∧ ((True ∧ (z4 = z4)) ∧ True)))))) ∧ ((Unit → ((z18 = (0 : Int)) → (True ∧ ((((2 : Nat) < (4 : Nat)) ∧ (IsBool z8)) ∧ (True ∧ (True ∧ (pcond (!(Itm.bl u)) (True ∧ (((3 : Nat) < (4 : Nat)) ∧ (True ∧ (True ∧ (True ∧ (pcond (Decidable.decide ((0 : Int) < ((z17 : Nat) : Int))) (True ∧ (True ∧ (True ∧ ((D.v (Value.int IntKind.i64 (12 : Int))) = z1)))) z13)))))) (True ∧ z13)))))))) ∧ (∀ (r : Int), (((r ≠ (0 : Int)) ∧ (z18 = r)) → (True ∧ (True ∧ ((D.v (Value.int IntKind.i64 r)) = z1)))))))))))))))))))))))))))))))))) (by kernel_rfl) ?_
  simp only [true_and, and_true, and_self, IsInt_lit, IsBool_lit, IsStr_lit, IsSl_lit, cellN_lit, cellL_lit, Bool.not_eq_true', Bool.not_eq_false', Bool.not_true, Bool.not_false, Int.reduceLE, Int.reduceLT, Int.reduceNeg, Nat.le_refl, Int.le_refl, Nat.reduceLT, Nat.reduceLeDiff, Nat.reduceEqDiff, D.v.injEq, D.tup.injEq, D.agg.injEq, D.ro.injEq, List.cons.injEq, Value.int.injEq, Value.bool.injEq, pcond_true, pcond_false, NamelessL, Nameless, Nat.reduceMul, Nat.reduceAdd, Nat.zero_add, Int.toNat_natCast]
  exact item_goal hpre
def ent_hItem : Ent := fun ds => match ds with
  | [.agg [.v (.int .i64 l), .ro n ws, .v (.bool b), .ro k ks]] => some (.v (.int .i64 (itemE (.mk l (unW ws) b (unI ks)))), (WOk n ws ∧ IOk k ks) ∧ okI (.mk l (unW ws) b (unI ks)))
  | _ => none
theorem ent_hItem_ok : EntOk Try.prog 18 ent_hItem := by
  intro ds d c hd hc; unfold ent_hItem at hd; split at hd
  · rename_i l n ws b k ks
    obtain ⟨rfl, rfl⟩ := pair_inj hd
    obtain ⟨⟨⟨⟨a1, a2⟩, a3⟩, ⟨b1, b2⟩, b3, b4⟩, hx⟩ := hc
    generalize unW ws = w at *
    generalize unI ks = k' at *
    subst a1; subst a2; subst b1; subst b2
    exact hItem_pure (.mk l w b k') hx
  · cases hd
def lp_rItemLoop (u : Itm) : LoopO := loopRule2 (α := Nat) (β := Unit) (γ := Int) [some 0] (fun i => i ≤ u.ws.length ∧ ∀ j, j < i → wordE (u.ws.getD j default).t (u.ws.getD j default).q = 0) (fun i => [(1, .ptr 0 0), (3, .v (.int .i64 (i : Int)))]) (fun _ => [some ⟨36, [.v (.int .i64 u.line), .ro u.ws.length (wordsD u.ws), .v (.bool u.bl), .ro u.ks.length (itemsD u.ks)], true⟩]) (0) (fun _ => wordsE u.ws = 0) (fun _ => (.exit 0, [(1, .ptr 0 0)], [some ⟨36, [.v (.int .i64 u.line), .ro u.ws.length (wordsD u.ws), .v (.bool u.bl), .ro u.ks.length (itemsD u.ks)], true⟩])) (fun e => e ≠ 0 ∧ wordsE u.ws = e) (fun e => (.ret, [(2, .v (.int .i64 e))], []))
theorem rItemLoop_rule (u : Itm) (hpre : okI u) : LRuleP Try.prog Try.f29.ntmps (loopAt ((Try.f29.body).getD .skip) 6) (lp_rItemLoop u) := by
  refine lrule_of2 (α := Nat) (β := Unit) (γ := Int) (call := (addPure 40 ent_rWord noCalls)) (lp := fun _ => none) (N := 10) T_ok mixed (addPure_ok ent_rWord_ok noCalls_ok) (fun i => u.ws.length - i) (by kernel_rfl) (LpAllP.none _) ?_
  intro x hJ
  refine of_eq (B := letI z8 := (Exit.exit (0 : Nat)); letI z4 := (Prod.mk (1 : Nat) (D.ptr (0 : Nat) (0 : Nat))); letI z15 := (D.v (Value.int IntKind.i64 (Itm.line u))); letI z7 := (List.length (Itm.ws u)); letI z9 := (wordsD (Itm.ws u)); letI z17 := (D.v (Value.bool (Itm.bl u))); letI z14 := (D.ro (List.length (Itm.ks u)) (itemsD (Itm.ks u))); letI z3 := (Option.some (Blk.mk (36 : TypeId) [z15, (D.ro z7 z9), z17, z14] Bool.true)); letI z0 := (Prod.mk z8 (Prod.mk [z4] [z3])); letI z1 := (Option.some (Blk.mk (36 : Nat) [z15, (D.ro z7 z9), z17, z14] Bool.true)); letI z12 := ((x : Nat) : Int); letI z2 := ((Int.toNat z12) * (2 : Nat)); letI z5 := (List.getD z9 z2 (Inhabited.default)); letI z6 := (List.getD z9 (z2 + (1 : Nat)) (Inhabited.default)); letI z10 := (List (Option Nat)); letI z11 := ([] : List (Option Blk)); letI z13 := (wordsE (Itm.ws u)); letI z16 := (wordE (cellStr z5) (cellBool z6)); letI z18 := ((1 : Nat) < (4 : Nat)); (True ∧ (True ∧ (z18 ∧ (True ∧ (True ∧ (pcond (Decidable.decide (z12 < ((z7 : Nat) : Int))) (True ∧ (z18 ∧ (True ∧ ((((0 : Int) ≤ z12) ∧ (z12 < ((z7 : Nat) : Int))) ∧ ((((z2 + (2 : Nat)) ≤ (List.length z9)) ∧ ((IsStr z5) ∧ ((IsBool z6) ∧ True))) ∧ (((ByteArray.size (cellStr z5)) ≤ (9223372036854775807 : Nat)) ∧ (True ∧ (True ∧ (True ∧ (pcond (z16 != (0 : Int)) (True ∧ (True ∧ ((∃ (r : Unit), (∃ (kp : z10), ((z13 = (0 : Int)) ∧ ((Exit.ret = z8) ∧ (viewAll kp [z4] [z1] (Prod.fst (Prod.snd ((fun (x_1 : Unit) => z0) r))) (Prod.snd (Prod.snd ((fun (x_1 : Unit) => z0) r)))))))) ∨ (∃ (r : Int), (∃ (kp : z10), (((r ≠ (0 : Int)) ∧ (z13 = r)) ∧ ((Exit.ret = Exit.ret) ∧ (viewAll kp [(Prod.mk (2 : Nat) (D.v (Value.int IntKind.i64 z16)))] [z1] (Prod.fst (Prod.snd ((fun (e : Int) => (Prod.mk Exit.ret (Prod.mk [(Prod.mk (2 : Nat) (D.v (Value.int IntKind.i64 e)))] z11))) r))) (Prod.snd (Prod.snd ((fun (e : Int) => (Prod.mk Exit.ret (Prod.mk [(Prod.mk (2 : Nat) (D.v (Value.int IntKind.i64 e)))] z11))) r))))))))))) (True ∧ (True ∧ (True ∧ (∃ (y : Nat), (∃ (kp : z10), (((z7 - y) < (z7 - x)) ∧ (((y ≤ z7) ∧ (∀ (j : Nat), ((j < y) → ((wordE (Wd.t (List.getD (Itm.ws u) j (Inhabited.default))) (Wd.q (List.getD (Itm.ws u) j (Inhabited.default)))) = (0 : Int))))) ∧ (viewAll kp [z4, (Prod.mk (3 : Nat) (D.v (Value.int IntKind.i64 (IntKind.wrap IntKind.i64 (z12 + (1 : Int))))))] [z1] [z4, (Prod.mk (3 : Nat) (D.v (Value.int IntKind.i64 ((y : Nat) : Int))))] [z3])))))))))))))))))) ((∃ (r : Unit), (∃ (kp : z10), ((z13 = (0 : Int)) ∧ ((z8 = z8) ∧ (viewAll kp [z4] [z1] (Prod.fst (Prod.snd ((fun (x_1 : Unit) => z0) r))) (Prod.snd (Prod.snd ((fun (x_1 : Unit) => z0) r)))))))) ∨ (∃ (r : Int), (∃ (kp : z10), (((r ≠ (0 : Int)) ∧ (z13 = r)) ∧ ((z8 = Exit.ret) ∧ (viewAll kp ([] : List (Prod Nat D)) [z1] (Prod.fst (Prod.snd ((fun (e : Int) => (Prod.mk Exit.ret (Prod.mk [(Prod.mk (2 : Nat) (D.v (Value.int IntKind.i64 e)))] z11))) r))) (Prod.snd (Prod.snd ((fun (e : Int) => (Prod.mk Exit.ret (Prod.mk [(Prod.mk (2 : Nat) (D.v (Value.int IntKind.i64 e)))] z11))) r)))))))))))))))) (by kernel_rfl) ?_
  simp only [true_and, and_true, and_self, IsInt_lit, IsBool_lit, IsStr_lit, IsSl_lit, cellN_lit, cellL_lit, Bool.not_eq_true', Bool.not_eq_false', Bool.not_true, Bool.not_false, Int.reduceLE, Int.reduceLT, Int.reduceNeg, Nat.le_refl, Int.le_refl, Nat.reduceLT, Nat.reduceLeDiff, Nat.reduceEqDiff, D.v.injEq, D.tup.injEq, D.agg.injEq, D.ro.injEq, List.cons.injEq, Value.int.injEq, Value.bool.injEq, pcond_true, pcond_false, NamelessL, Nameless, Nat.reduceMul, Nat.reduceAdd, Nat.zero_add, Int.toNat_natCast] at *
  obtain ⟨hx, hall⟩ := hJ
  obtain ⟨o1, o2, o3, o4⟩ := okI_parts hpre
  simp only [maxLen] at o1
  refine pcond_intro (fun h1 => ?_) (fun h1 => ?_)
  · simp only [decide_eq_true_eq] at h1
    have hxl : x < u.ws.length := by omega
    obtain ⟨g0, g1⟩ := wordsD_get u.ws x hxl
    have l1 := wordsD_length u.ws
    have hi : IntKind.i64.wrap ((x : Int) + 1) = ((x + 1 : Nat) : Int) := by rw [wrap_i64_of (by omega) (by omega)]; omega
    have hs := okW_get o3 hxl
    simp only [g0, g1, cellStr_lit, cellBool_lit, IsStr_lit, IsBool_lit, hi]
    refine ⟨by omega, ⟨by omega, trivial, trivial⟩, by simpa [maxLen] using hs, pcond_intro (fun h2 => .inr ⟨_, [], ⟨?_, wordsE_at x hxl hall ?_⟩, ?_⟩) (fun h2 => ⟨x + 1, [some 0], by omega, ⟨by omega, fun j hj => ?_⟩, ?_⟩)⟩
    · rw [bne_iff_ne] at h2; exact h2
    · rw [bne_iff_ne] at h2; exact h2
    · refine of_eq (B := letI z1 := (List.getD (Itm.ws u) x (Inhabited.default)); letI z0 := (D.v (Value.int IntKind.i64 (wordE (Wd.t z1) (Wd.q z1)))); letI z2 := ([] : List (Option Blk)); ((Bool.true = Bool.true) ∧ ((z2 = z2) ∧ ((True ∧ (z0 = z0)) ∧ True)))) (by kernel_rfl) ?_; simp
    · rcases Nat.lt_succ_iff_lt_or_eq.1 hj with h | rfl
      · exact hall j h
      · rw [bne_eq_false_iff_eq] at h2; exact h2
    · refine of_eq (B := letI z4 := (D.v (Value.int IntKind.i64 (Itm.line u))); letI z2 := (D.ro (List.length (Itm.ws u)) (wordsD (Itm.ws u))); letI z5 := (D.v (Value.bool (Itm.bl u))); letI z3 := (D.ro (List.length (Itm.ks u)) (itemsD (Itm.ks u))); letI z0 := (Option.some (Blk.mk (36 : Nat) [z4, z2, z5, z3] Bool.true)); letI z1 := (D.v (Value.int IntKind.i64 (((x + (1 : Nat)) : Nat) : Int))); letI z6 := (D.ptr (0 : Nat) (0 : Nat)); letI z7 := ([] : List (Option Blk)); ((Bool.true = Bool.true) ∧ ((((z0 = z0) ∧ (NamelessL [z4, z2, z5, z3])) ∧ (z7 = z7)) ∧ ((True ∧ (z6 = z6)) ∧ ((True ∧ (z1 = z1)) ∧ True))))) (by kernel_rfl) ?_; simp [NamelessL, Nameless, wordsD_nl, itemsD_nl]
  · simp only [decide_eq_false_iff_not] at h1
    refine .inl ⟨(), [some 0], wordsE_all fun j hj => hall j (by omega), ?_⟩
    refine of_eq (B := letI z3 := (D.v (Value.int IntKind.i64 (Itm.line u))); letI z1 := (D.ro (List.length (Itm.ws u)) (wordsD (Itm.ws u))); letI z4 := (D.v (Value.bool (Itm.bl u))); letI z2 := (D.ro (List.length (Itm.ks u)) (itemsD (Itm.ks u))); letI z0 := (Option.some (Blk.mk (36 : Nat) [z3, z1, z4, z2] Bool.true)); letI z5 := (D.ptr (0 : Nat) (0 : Nat)); letI z6 := ([] : List (Option Blk)); ((Bool.true = Bool.true) ∧ ((((z0 = z0) ∧ (NamelessL [z3, z1, z4, z2])) ∧ (z6 = z6)) ∧ ((True ∧ (z5 = z5)) ∧ True)))) (by kernel_rfl) ?_; simp [NamelessL, Nameless, wordsD_nl, itemsD_nl]
theorem rItem_pure (u : Itm) (hpre : okI u) : PureJ Try.prog 29 [.agg [.v (.int .i64 u.line), .ro u.ws.length (wordsD u.ws), .v (.bool u.bl), .ro u.ks.length (itemsD u.ks)]] (.v (.int .i64 (itemE u))) := by
  refine pureJ_of_vcp (call := (addPure 39 ent_rHead noCalls)) (lp := fun k => bif Nat.beq k 6 then some (lp_rItemLoop u) else none) (N := 10) T_ok mixed (addPure_ok ent_rHead_ok noCalls_ok) Try.func29 rfl (by decide) (by kernel_rfl) (by kernel_rfl) (of_eq (B := LRuleP Try.prog Try.f29.ntmps (loopAt ((Try.f29.body).getD .skip) 6) (lp_rItemLoop u) ∧ True) (by kernel_rfl) ⟨rItemLoop_rule u hpre, trivial⟩) (by first | exact ⟨⟨trivial, wordsD_nl _, trivial, itemsD_nl _, trivial⟩, trivial⟩ | trivial | simp [NamelessL, Nameless]) (by first | exact ⟨⟨trivial, wordsD_nl _, trivial, itemsD_nl _, trivial⟩, trivial⟩ | trivial | simp [NamelessL, Nameless]) ?_
  refine of_eq (B := letI z11 := (D.v (Value.int IntKind.i64 (Itm.line u))); letI z3 := (List.length (Itm.ws u)); letI z4 := (wordsD (Itm.ws u)); letI z6 := (D.v (Value.bool (Itm.bl u))); letI z16 := (List.length (Itm.ks u)); letI z7 := (D.ro z16 (itemsD (Itm.ks u))); letI z0 := (Option.some (Blk.mk (36 : Nat) [z11, (D.ro z3 z4), z6, z7] Bool.true)); letI z1 := (D.v (Value.int IntKind.i64 (itemE u))); letI z2 := (D.v (Value.int IntKind.i64 (0 : Int))); letI z5 := (True ∧ (True ∧ (True ∧ ((D.v (Value.int IntKind.i64 (6 : Int))) = z1)))); letI z8 := (List.getD z4 (0 : Nat) (Inhabited.default)); letI z9 := (List.getD z4 (1 : Nat) (Inhabited.default)); letI z10 := ((1 : Nat) < (4 : Nat)); letI z12 := (True ∧ (True ∧ (True ∧ (z2 = z1)))); letI z13 := ((z3 : Nat) : Int); letI z14 := (D.ptr (0 : Nat) (0 : Nat)); letI z15 := ([] : List (Option Blk)); letI z17 := (wordsE (Itm.ws u)); (True ∧ (True ∧ (True ∧ (z10 ∧ (True ∧ (True ∧ (True ∧ (pcond (z13 == (0 : Int)) (True ∧ z5) (True ∧ (z10 ∧ ((((0 : Int) ≤ (0 : Int)) ∧ ((0 : Int) < z13)) ∧ ((((2 : Nat) ≤ (List.length z4)) ∧ ((IsStr z8) ∧ ((IsBool z9) ∧ True))) ∧ (True ∧ (True ∧ (True ∧ (pcond (!(headB (cellStr z8) (cellBool z9))) z5 (True ∧ (z10 ∧ (True ∧ (True ∧ (pcond (Decidable.decide ((40 : Int) < z13)) (True ∧ (True ∧ (True ∧ ((D.v (Value.int IntKind.i64 (3 : Int))) = z1)))) (True ∧ ((((0 : Nat) ≤ z3) ∧ (∀ (j : Nat), ((j < (0 : Nat)) → ((wordE (Wd.t (List.getD (Itm.ws u) j (Inhabited.default))) (Wd.q (List.getD (Itm.ws u) j (Inhabited.default)))) = (0 : Int))))) ∧ (((Bool.true = Bool.true) ∧ ((((z0 = z0) ∧ (NamelessL [z11, (D.ro z3 z4), z6, z7])) ∧ (z15 = z15)) ∧ ((True ∧ (z14 = z14)) ∧ ((True ∧ (z2 = z2)) ∧ True)))) ∧ ((Unit → ((z17 = (0 : Int)) → (True ∧ ((((2 : Nat) < (4 : Nat)) ∧ (IsBool z6)) ∧ (True ∧ (True ∧ (pcond (!(Itm.bl u)) (True ∧ (((3 : Nat) < (4 : Nat)) ∧ (True ∧ (True ∧ (True ∧ (pcond (Decidable.decide ((0 : Int) < ((z16 : Nat) : Int))) (True ∧ (True ∧ (True ∧ ((D.v (Value.int IntKind.i64 (12 : Int))) = z1)))) z12)))))) (True ∧ z12)))))))) ∧ (∀ (r : Int), (((r ≠ (0 : Int)) ∧ (z17 = r)) → (True ∧ (True ∧ ((D.v (Value.int IntKind.i64 r)) = z1))))))))))))))))))))))))))))))) (by kernel_rfl) ?_
  simp only [true_and, and_true, and_self, IsInt_lit, IsBool_lit, IsStr_lit, IsSl_lit, cellN_lit, cellL_lit, Bool.not_eq_true', Bool.not_eq_false', Bool.not_true, Bool.not_false, Int.reduceLE, Int.reduceLT, Int.reduceNeg, Nat.le_refl, Int.le_refl, Nat.reduceLT, Nat.reduceLeDiff, Nat.reduceEqDiff, D.v.injEq, D.tup.injEq, D.agg.injEq, D.ro.injEq, List.cons.injEq, Value.int.injEq, Value.bool.injEq, pcond_true, pcond_false, NamelessL, Nameless, Nat.reduceMul, Nat.reduceAdd, Nat.zero_add, Int.toNat_natCast]
  exact item_goal hpre
def ent_rItem : Ent := fun ds => match ds with
  | [.agg [.v (.int .i64 l), .ro n ws, .v (.bool b), .ro k ks]] => some (.v (.int .i64 (itemE (.mk l (unW ws) b (unI ks)))), (WOk n ws ∧ IOk k ks) ∧ okI (.mk l (unW ws) b (unI ks)))
  | _ => none
theorem ent_rItem_ok : EntOk Try.prog 29 ent_rItem := by
  intro ds d c hd hc; unfold ent_rItem at hd; split at hd
  · rename_i l n ws b k ks
    obtain ⟨rfl, rfl⟩ := pair_inj hd
    obtain ⟨⟨⟨⟨a1, a2⟩, a3⟩, ⟨b1, b2⟩, b3, b4⟩, hx⟩ := hc
    generalize unW ws = w at *
    generalize unI ks = k' at *
    subst a1; subst a2; subst b1; subst b2
    exact rItem_pure (.mk l w b k') hx
  · cases hd
end Go.Proofs.Ytahiigfpikohgaa
end
section
namespace Go.Proofs.Ytahiigfpikohgaa
open Go.VD
set_option linter.unusedVariables false
set_option linter.unusedSimpArgs false
set_option maxRecDepth 100000
mutual
def chkI : Itm → Nat → Nat → Int × Nat
  | .mk l ws b ks, d, c => bif decide (600 ≤ c) then (3, c + 1) else bif decide (4 < d) then (17, c + 1) else bif !decide (itemE (.mk l ws b ks) = 0) then (itemE (.mk l ws b ks), c + 1) else chkL ks (d + 1) (c + 1)
def chkL : List Itm → Nat → Nat → Int × Nat
  | [], _, c => (0, c)
  | x :: r, d, c => bif decide ((chkI x d c).1 = 0) then chkL r d (chkI x d c).2 else chkI x d c
end
theorem chkI_eq (x : Itm) (d c : Nat) : chkI x d c = bif decide (600 ≤ c) then (3, c + 1) else bif decide (4 < d) then (17, c + 1) else bif !decide (itemE x = 0) then (itemE x, c + 1) else chkL x.ks (d + 1) (c + 1) := by
  cases x; simp only [chkI, Itm.ks]
theorem chkL_app : ∀ (l : List Itm) (x : Itm) (d c : Nat), chkL (l ++ [x]) d c = bif decide ((chkL l d c).1 = 0) then chkI x d (chkL l d c).2 else chkL l d c
  | [], x, d, c => by
    simp only [List.nil_append, chkL]
    by_cases h : (chkI x d c).1 = 0
    · rw [decide_eq_true h]; simp only [cond_true, decide_true]
      exact Prod.ext h.symm rfl
    · rw [decide_eq_false h]; rfl
  | y :: r, x, d, c => by
    rw [List.cons_append, chkL, chkL]
    by_cases h : (chkI y d c).1 = 0
    · rw [decide_eq_true h]; simp only [cond_true]; exact chkL_app r x d _
    · rw [decide_eq_false h]; simp only [cond_false]; rw [decide_eq_false h]; rfl
theorem chkL_err : ∀ (l r : List Itm) (d c : Nat), (chkL l d c).1 ≠ 0 → chkL (l ++ r) d c = chkL l d c
  | [], r, d, c, h => by simp [chkL] at h
  | y :: l, r, d, c, h => by
    rw [List.cons_append, chkL, chkL]
    rw [chkL] at h
    by_cases h1 : (chkI y d c).1 = 0
    · rw [decide_eq_true h1] at h ⊢; simp only [cond_true] at h ⊢; exact chkL_err l r d _ h
    · rw [decide_eq_false h1]; rfl
mutual
theorem chkI_le : ∀ (x : Itm) (d c : Nat), (chkI x d c).1 = 0 → (chkI x d c).2 ≤ 600
  | .mk l ws b ks, d, c, h => by
    rw [chkI] at h ⊢
    by_cases h1 : 600 ≤ c
    · rw [decide_eq_true h1] at h; simp at h
    · rw [decide_eq_false h1] at h ⊢
      by_cases h2 : 4 < d
      · rw [decide_eq_true h2] at h; simp at h
      · rw [decide_eq_false h2] at h ⊢
        by_cases h3 : itemE (.mk l ws b ks) = 0
        · rw [decide_eq_true h3] at h ⊢
          simp only [cond_false, Bool.not_true] at h ⊢
          exact chkL_le ks _ _ (by omega) h
        · rw [decide_eq_false h3] at h; simp at h; exact absurd h h3
theorem chkL_le : ∀ (l : List Itm) (d c : Nat), c ≤ 600 → (chkL l d c).1 = 0 → (chkL l d c).2 ≤ 600
  | [], d, c, hc, h => by simpa [chkL] using hc
  | x :: r, d, c, hc, h => by
    rw [chkL] at h ⊢
    by_cases h1 : (chkI x d c).1 = 0
    · rw [decide_eq_true h1] at h ⊢
      simp only [cond_true] at h ⊢
      exact chkL_le r d _ (chkI_le x d c h1) h
    · rw [decide_eq_false h1] at h; exact absurd h h1
end
theorem chk_step {l : List Itm} {i d c : Nat} (hi : i < l.length) (h : (chkL (l.take i) d c).1 = 0) : chkL (l.take (i + 1)) d c = chkI (l.getD i default) d (chkL (l.take i) d c).2 := by
  rw [getD_take l hi, chkL_app, decide_eq_true h]; rfl
theorem chk_stop {l : List Itm} {i d c : Nat} (hi : i < l.length) (h : (chkL (l.take i) d c).1 = 0) (hn : (chkI (l.getD i default) d (chkL (l.take i) d c).2).1 ≠ 0) : chkL l d c = chkI (l.getD i default) d (chkL (l.take i) d c).2 := by
  have e := chk_step hi h
  have := chkL_err (l.take (i + 1)) (l.drop (i + 1)) d c (by rw [e]; exact hn)
  rw [List.take_append_drop] at this
  rw [this, e]
def chkHeap (c : Nat) : Heap := [some ⟨3, [.v (.int .i64 (c : Int))], true⟩, some ⟨37, [.fn 17 0 [.ptr 0 0, .ptr 1 0]], true⟩]
def ChkIH (h : Nat) : Prop := ∀ (l : List Itm) (d c : Nat), hL l < h → (okL l ∧ l.length ≤ maxLen) → d ≤ 5 → c ≤ 600 →
  CallJ Try.prog 17 [.ro l.length (itemsD l), .v (.int .i64 (d : Int)), .ptr 0 0, .ptr 1 0] (chkHeap c) (.v (.int .i64 (chkL l d c).1)) (chkHeap (chkL l d c).2)
def entc_chkR (h : Nat) : EntC := fun ds H => match ds with
  | [.ro n ys, .v (.int .i64 d), .ptr a 0, .ptr b 0] => match blkAt H a, blkAt H b with
    | some ⟨t1, [.v (.int .i64 c)], true⟩, some ⟨t2, [.fn 17 0 [.ptr a' 0, .ptr b' 0]], true⟩ =>
      some (.v (.int .i64 (chkL (unI ys) d.toNat c.toNat).1), H.set a (some ⟨t1, [.v (.int .i64 ((chkL (unI ys) d.toNat c.toNat).2 : Nat))], true⟩),
        (IOk n ys ∧ hL (unI ys) < h) ∧ ((0 ≤ d ∧ d ≤ 5) ∧ 0 ≤ c ∧ c ≤ 600) ∧ (t1 = 3 ∧ t2 = 37) ∧ a' = a ∧ b' = b ∧ a ≠ b)
    | _, _ => none
  | _ => none
theorem set_same {α : Type} : ∀ {l : List α} {i : Nat} {x : α}, l[i]? = some x → l.set i x = l
  | [], i, x, h => by simp at h
  | y :: r, 0, x, h => by simp at h; simp [h]
  | y :: r, i + 1, x, h => by simp only [List.set_cons_succ, set_same (l := r) (by simpa using h)]
theorem entc_chkR_ok (h : Nat) (ih : ChkIH h) : EntCOk Try.prog 17 (entc_chkR h) := by
  intro ds H d0 H' p hd hc; unfold entc_chkR at hd; split at hd
  · rename_i n ys d a b
    split at hd
    · rename_i t1 c t2 a' b' ha hb
      injection hd with hd
      simp only [Prod.mk.injEq] at hd
      obtain ⟨rfl, rfl, rfl⟩ := hd
      obtain ⟨⟨⟨⟨h1, h2⟩, h3, h4⟩, hh⟩, ⟨⟨d1, d2⟩, c1, c2⟩, ⟨rfl, rfl⟩, rfl, rfl, hab⟩ := hc
      generalize unI ys = l at *
      subst h1; subst h2
      obtain ⟨dn, rfl⟩ := Int.eq_ofNat_of_zero_le d1
      obtain ⟨cn, rfl⟩ := Int.eq_ofNat_of_zero_le c1
      simp only [Int.ofNat_eq_natCast, Int.toNat_natCast] at *
      have ha' := blkAt_some ha
      have hb' := blkAt_some hb
      have hla := (List.getElem?_eq_some_iff.1 ha').1
      have hlb := (List.getElem?_eq_some_iff.1 hb').1
      have key := (ih l dn cn hh ⟨h4, h3⟩ (by omega) (by omega)).frames (σ := [a', b']) (B := H) rfl (by simpa using hab) (by simp [hla, hlb]) (fun i blk hi => by
        match i, hi with
        | 0, hi =>
          simp only [chkHeap, List.getElem?_cons_zero, Option.some.injEq] at hi; subst hi
          exact ⟨a', rfl, by rw [ha']; rfl, by simp [namesD.namesA, namesD]⟩
        | 1, hi =>
          simp only [chkHeap, List.getElem?_cons_succ, List.getElem?_cons_zero, Option.some.injEq] at hi; subst hi
          exact ⟨b', rfl, by rw [hb']; rfl, by simp [namesD.namesA, namesD, chkHeap]⟩
        | i + 2, hi => simp [chkHeap] at hi) (by simp [namesD.namesA, namesD, chkHeap])
      have e : frH [a', b'] H (chkHeap (chkL l dn cn).2) = H.set a' (some ⟨3, [.v (.int .i64 ((chkL l dn cn).2 : Nat))], true⟩) := by
        have : frH [a', b'] H (chkHeap (chkL l dn cn).2) = (H.set a' (some ⟨3, [.v (.int .i64 ((chkL l dn cn).2 : Nat))], true⟩)).set b' (some ⟨37, [.fn 17 0 [.ptr a' 0, .ptr b' 0]], true⟩) ++ [] := rfl
        rw [this, List.append_nil]
        exact set_same (by rw [List.getElem?_set_ne hab]; exact hb')
      rw [e] at key
      exact key
    · cases hd
  · cases hd
end Go.Proofs.Ytahiigfpikohgaa
end
