import Derived.Test.YtahiigfpikohgaaZUo16
section
namespace Go.Proofs.Ytahiigfpikohgaa
open Go.VD
set_option linter.unusedVariables false
set_option linter.unusedSimpArgs false
set_option maxRecDepth 100000
def whB (n : Nat) : Bool := decide (n = 32) || (decide (n = 9) || decide (n = 10))
def nlB (n : Nat) : Bool := !decide (n = 10)
theorem whB_lt (n : Nat) (h : whB n = true) : n < 128 := by
  unfold whB at h; simp at h; omega
def whI (c : Int) : Bool := decide (c = 32) || (decide (c = 9) || decide (c = 10))
theorem wh_int (n : Nat) : whI (n : Int) = whB n := by
  unfold whI whB
  rw [Bool.eq_iff_iff]; simp; omega
theorem isWhite_pure (c : Int) : PureJ Try.prog 43 [.v (.int .i32 c)] (.v (.bool (whI c))) := by
  refine pureJ_of_vcx (call := noCalls) (lp := fun _ => none) (N := 10) T_ok mixed noCalls_ok Try.func43 rfl (by decide) (by kernel_rfl) (by kernel_rfl) (LpAll.none _) (by first | trivial | (simp only [NamelessL, Nameless, and_self, and_true, true_and]; done) | (simp [NamelessL, Nameless, u32s_nameless, namelessL_ints]; done)) (by first | trivial | (simp only [NamelessL, Nameless, and_self, and_true, true_and]; done) | (simp [NamelessL, Nameless, u32s_nameless, namelessL_ints]; done)) ?_
  refine of_eq (B := letI z1 := (D.v (Value.bool (whI c))); letI z0 := (True ∧ (True ∧ (True ∧ (True ∧ ((D.v (Value.bool Bool.true)) = z1))))); (True ∧ (True ∧ (True ∧ (True ∧ (pcond (c == (32 : Int)) (True ∧ (True ∧ z0)) (True ∧ (True ∧ (True ∧ (True ∧ (pcond (c == (9 : Int)) z0 (True ∧ (True ∧ (True ∧ (True ∧ (True ∧ (True ∧ ((D.v (Value.bool (c == (10 : Int)))) = z1)))))))))))))))))) (by kernel_rfl) ?_
  simp only [true_and, and_true, and_self, IsInt_lit, IsBool_lit, IsStr_lit, IsSl_lit, cellN_lit, cellL_lit, Bool.not_eq_true', Bool.not_eq_false', Bool.not_true, Bool.not_false, Int.reduceLE, Int.reduceLT, Int.reduceNeg, Nat.le_refl, Int.le_refl, Nat.reduceLT, Nat.reduceLeDiff, Nat.reduceEqDiff, D.v.injEq, D.tup.injEq, D.agg.injEq, D.ro.injEq, List.cons.injEq, Value.int.injEq, Value.bool.injEq, pcond_true, pcond_false, NamelessL, Nameless, Nat.reduceMul, Nat.reduceAdd, Nat.zero_add, Int.toNat_natCast]
  have e : whI c = (c == 32 || (c == 9 || c == 10)) := by
    unfold whI; rw [Bool.eq_iff_iff]; simp
  rw [e]
  cases (c == 32) <;> cases (c == 9) <;> cases (c == 10) <;> simp [pcond]
def ent_isWhite : Ent := fun ds => match ds with
  | [.v (.int .i32 c)] => some (.v (.bool (whI c)), True)
  | _ => none
theorem ent_isWhite_ok : EntOk Try.prog 43 ent_isWhite := by
  intro ds d c h hc; unfold ent_isWhite at h; split at h
  · obtain ⟨rfl, rfl⟩ := pair_inj h; exact isWhite_pure _
  · cases h
theorem isRest_pure (c : Int) : PureJ Try.prog 45 [.v (.int .i32 c)] (.v (.bool (!decide (c = 10)))) := by
  refine pureJ_of_vcx (call := noCalls) (lp := fun _ => none) (N := 10) T_ok mixed noCalls_ok Try.func45 rfl (by decide) (by kernel_rfl) (by kernel_rfl) (LpAll.none _) (by first | trivial | (simp only [NamelessL, Nameless, and_self, and_true, true_and]; done) | (simp [NamelessL, Nameless, u32s_nameless, namelessL_ints]; done)) (by first | trivial | (simp only [NamelessL, Nameless, and_self, and_true, true_and]; done) | (simp [NamelessL, Nameless, u32s_nameless, namelessL_ints]; done)) ?_
  refine of_eq (B := (True ∧ (True ∧ (True ∧ (True ∧ (True ∧ (True ∧ ((D.v (Value.bool (c != (10 : Int)))) = (D.v (Value.bool (!(Decidable.decide (c = (10 : Int)))))))))))))) (by kernel_rfl) ?_
  simp only [true_and, and_true, and_self, IsInt_lit, IsBool_lit, IsStr_lit, IsSl_lit, cellN_lit, cellL_lit, Bool.not_eq_true', Bool.not_eq_false', Bool.not_true, Bool.not_false, Int.reduceLE, Int.reduceLT, Int.reduceNeg, Nat.le_refl, Int.le_refl, Nat.reduceLT, Nat.reduceLeDiff, Nat.reduceEqDiff, D.v.injEq, D.tup.injEq, D.agg.injEq, D.ro.injEq, List.cons.injEq, Value.int.injEq, Value.bool.injEq, pcond_true, pcond_false, NamelessL, Nameless, Nat.reduceMul, Nat.reduceAdd, Nat.zero_add, Int.toNat_natCast]
  by_cases h : c = 10 <;> simp [h]
def ent_isRest : Ent := fun ds => match ds with
  | [.v (.int .i32 c)] => some (.v (.bool (!decide (c = 10))), True)
  | _ => none
theorem ent_isRest_ok : EntOk Try.prog 45 ent_isRest := by
  intro ds d c h hc; unfold ent_isRest at h; split at h
  · obtain ⟨rfl, rfl⟩ := pair_inj h; exact isRest_pure _
  · cases h
def lp_spanWLoop (s : ByteArray) : LoopO := loopRule2 (α := Nat) (β := Unit) (γ := Nat) [some 0] (fun n => n ≤ s.size ∧ ∀ i, i < n → whB (bt s i) = true) (fun n => [(0, .v (.string s)), (1, .fn 43 0 []), (8, .ptr 0 0)]) (fun n => [some ⟨itTy, [.v (.string s), .v (.int .i64 (n : Int))], true⟩]) (0) (fun _ => ∀ i, i < s.size → whB (bt s i) = true) (fun _ => (.exit 0, [(0, .v (.string s))], [])) (fun n => n < s.size ∧ whB (bt s n) = false ∧ ∀ i, i < n → whB (bt s i) = true) (fun n => (.ret, [(4, .v (.int .i64 (n : Int)))], []))
theorem spanWLoop_rule (s : ByteArray) (hpre : s.size ≤ 9223372036854775807) : LRuleP Try.prog Try.f36.ntmps (loopAt ((Try.f36.body).getD .skip) 2) (lp_spanWLoop s) := by
  refine lrule_of2 (α := Nat) (β := Unit) (γ := Nat) (call := (addPure 43 ent_isWhite noCalls)) (lp := fun _ => none) (N := 10) T_ok mixed (addPure_ok ent_isWhite_ok noCalls_ok) (fun n => s.size - n) (by kernel_rfl) (LpAllP.none _) ?_
  intro x hJ
  refine of_eq (B := letI z9 := (D.v (Value.string s)); letI z6 := (Int.toNat ((x : Nat) : Int)); letI z0 := (Option.some (Blk.mk (1000000007 : Nat) [z9, (D.v (Value.int IntKind.i64 (((z6 + (Prod.snd (Utf8.decode s z6))) : Nat) : Int)))] Bool.true)); letI z7 := (Exit.exit (0 : Nat)); letI z2 := (Prod.mk (0 : Nat) z9); letI z5 := ([] : List (Option Blk)); letI z1 := (Prod.mk z7 (Prod.mk [z2] z5)); letI z10 := (D.v (Value.int IntKind.i64 ((x : Nat) : Int))); letI z3 := (Option.some (Blk.mk (1000000007 : Nat) [z9, z10] Bool.true)); letI z4 := ByteArray.size s; letI z8 := (List (Option Nat)); letI z11 := (Prod.mk (8 : Nat) (D.ptr (0 : Nat) (0 : Nat))); (pcond (Decidable.decide (z6 < z4)) (True ∧ (True ∧ (True ∧ (True ∧ (True ∧ (True ∧ (True ∧ (True ∧ (True ∧ (pcond (!(whI (((Prod.fst (Utf8.decode s z6)) : Nat) : Int))) (True ∧ (True ∧ ((∃ (r : Unit), (∃ (kp : z8), ((∀ (i : Nat), ((i < z4) → ((whB (bt s i)) = Bool.true))) ∧ ((Exit.ret = z7) ∧ (viewAll kp [z2] [z0] (Prod.fst (Prod.snd ((fun (x_1 : Unit) => z1) r))) (Prod.snd (Prod.snd ((fun (x_1 : Unit) => z1) r)))))))) ∨ (∃ (r : Nat), (∃ (kp : z8), (((r < z4) ∧ (((whB (bt s r)) = Bool.false) ∧ (∀ (i : Nat), ((i < r) → ((whB (bt s i)) = Bool.true))))) ∧ ((Exit.ret = Exit.ret) ∧ (viewAll kp [(Prod.mk (4 : Nat) z10)] [z0] (Prod.fst (Prod.snd ((fun (n : Nat) => (Prod.mk Exit.ret (Prod.mk [(Prod.mk (4 : Nat) (D.v (Value.int IntKind.i64 ((n : Nat) : Int))))] z5))) r))) (Prod.snd (Prod.snd ((fun (n : Nat) => (Prod.mk Exit.ret (Prod.mk [(Prod.mk (4 : Nat) (D.v (Value.int IntKind.i64 ((n : Nat) : Int))))] z5))) r))))))))))) (∃ (y : Nat), (∃ (kp : z8), (((z4 - y) < (z4 - x)) ∧ (((y ≤ z4) ∧ (∀ (i : Nat), ((i < y) → ((whB (bt s i)) = Bool.true)))) ∧ (viewAll kp [z2, (Prod.mk (1 : Nat) (D.fn (43 : Nat) (0 : Nat) ([] : List D))), z11] [z0] [z2, (Prod.mk (1 : Nat) (D.fn (43 : FuncId) (0 : Nat) ([] : List D))), z11] [(Option.some (Blk.mk itTy [z9, (D.v (Value.int IntKind.i64 ((y : Nat) : Int)))] Bool.true))]))))))))))))))) (True ∧ ((∃ (r : Unit), (∃ (kp : z8), ((∀ (i : Nat), ((i < z4) → ((whB (bt s i)) = Bool.true))) ∧ ((z7 = z7) ∧ (viewAll kp [z2] [z3] (Prod.fst (Prod.snd ((fun (x_1 : Unit) => z1) r))) (Prod.snd (Prod.snd ((fun (x_1 : Unit) => z1) r)))))))) ∨ (∃ (r : Nat), (∃ (kp : z8), (((r < z4) ∧ (((whB (bt s r)) = Bool.false) ∧ (∀ (i : Nat), ((i < r) → ((whB (bt s i)) = Bool.true))))) ∧ ((z7 = Exit.ret) ∧ (viewAll kp ([] : List (Prod Nat D)) [z3] (Prod.fst (Prod.snd ((fun (n : Nat) => (Prod.mk Exit.ret (Prod.mk [(Prod.mk (4 : Nat) (D.v (Value.int IntKind.i64 ((n : Nat) : Int))))] z5))) r))) (Prod.snd (Prod.snd ((fun (n : Nat) => (Prod.mk Exit.ret (Prod.mk [(Prod.mk (4 : Nat) (D.v (Value.int IntKind.i64 ((n : Nat) : Int))))] z5))) r)))))))))))) (by kernel_rfl) ?_
  simp only [true_and, and_true, and_self, IsInt_lit, IsBool_lit, IsStr_lit, IsSl_lit, cellN_lit, cellL_lit, Bool.not_eq_true', Bool.not_eq_false', Bool.not_true, Bool.not_false, Int.reduceLE, Int.reduceLT, Int.reduceNeg, Nat.le_refl, Int.le_refl, Nat.reduceLT, Nat.reduceLeDiff, Nat.reduceEqDiff, D.v.injEq, D.tup.injEq, D.agg.injEq, D.ro.injEq, List.cons.injEq, Value.int.injEq, Value.bool.injEq, pcond_true, pcond_false, NamelessL, Nameless, Nat.reduceMul, Nat.reduceAdd, Nat.zero_add, Int.toNat_natCast] at *
  obtain ⟨hx, hall⟩ := hJ
  obtain ⟨p1, p2⟩ := dec_pred whB_lt s x
  rw [wh_int, p1]
  refine pcond_intro (fun h => ?_) (fun h => .inl ⟨(), [], ?_, ?_⟩)
  · simp only [decide_eq_true_eq] at h
    refine pcond_intro (fun h1 => .inr ⟨x, [], ⟨h, by simpa using h1, hall⟩, ?_⟩) (fun h1 => ⟨x + 1, [some 0], by omega, ⟨by omega, fun i hi => ?_⟩, ?_⟩)
    · refine of_eq (B := letI z0 := (D.v (Value.int IntKind.i64 ((x : Nat) : Int))); letI z1 := ([] : List (Option Blk)); ((Bool.true = Bool.true) ∧ ((z1 = z1) ∧ ((True ∧ (z0 = z0)) ∧ True)))) (by kernel_rfl) ?_
      simp
    · rcases Nat.lt_or_ge i x with h2 | h2
      · exact hall i h2
      · rw [show i = x by omega]; simpa using h1
    · have h1 : whB (bt s x) = true := by simpa using h1
      rw [p2 h1]
      refine of_eq (B := letI z2 := (D.v (Value.string s)); letI z1 := (D.v (Value.int IntKind.i64 (((x + (1 : Nat)) : Nat) : Int))); letI z0 := (Option.some (Blk.mk (1000000007 : Nat) [z2, z1] Bool.true)); letI z3 := (D.fn (43 : Nat) (0 : Nat) ([] : List D)); letI z4 := (D.ptr (0 : Nat) (0 : Nat)); letI z5 := ([] : List (Option Blk)); ((Bool.true = Bool.true) ∧ ((((z0 = z0) ∧ (NamelessL [z2, z1])) ∧ (z5 = z5)) ∧ ((True ∧ (z2 = z2)) ∧ ((True ∧ (z3 = z3)) ∧ ((True ∧ (z4 = z4)) ∧ True)))))) (by kernel_rfl) ?_
      simp [NamelessL, Nameless]
  · simp only [decide_eq_false_iff_not] at h
    intro i hi
    exact hall i (by omega)
  · refine of_eq (B := letI z0 := ([] : List (Option Blk)); letI z1 := (D.v (Value.string s)); ((Bool.true = Bool.true) ∧ ((z0 = z0) ∧ ((True ∧ (z1 = z1)) ∧ True)))) (by kernel_rfl) ?_
    simp
theorem spanW_pure (s : ByteArray) (hpre : s.size ≤ 9223372036854775807) : PureJ Try.prog 36 [.v (.string s), .fn 43 0 []] (.v (.int .i64 (spN whB s : Nat))) := by
  refine pureJ_of_vcp (call := noCalls) (lp := fun k => bif Nat.beq k 2 then some (lp_spanWLoop s) else none) (N := 10) T_ok mixed noCalls_ok Try.func36 rfl (by decide) (by kernel_rfl) (by kernel_rfl) (of_eq (B := LRuleP Try.prog Try.f36.ntmps (loopAt ((Try.f36.body).getD .skip) 2) (lp_spanWLoop s) ∧ True) (by kernel_rfl) ⟨spanWLoop_rule s hpre, trivial⟩) (by first | trivial | (simp only [NamelessL, Nameless, and_self, and_true, true_and]; done) | (simp [NamelessL, Nameless, u32s_nameless, namelessL_ints]; done)) (by first | trivial | (simp only [NamelessL, Nameless, and_self, and_true, true_and]; done) | (simp [NamelessL, Nameless, u32s_nameless, namelessL_ints]; done)) ?_
  refine of_eq (B := letI z1 := (D.v (Value.string s)); letI z5 := (D.v (Value.int IntKind.i64 (0 : Int))); letI z0 := (Option.some (Blk.mk (1000000007 : Nat) [z1, z5] Bool.true)); letI z2 := (D.v (Value.int IntKind.i64 (((spN whB s) : Nat) : Int))); letI z3 := ByteArray.size s; letI z4 := (D.fn (43 : Nat) (0 : Nat) ([] : List D)); letI z6 := (D.ptr (0 : Nat) (0 : Nat)); letI z7 := ([] : List (Option Blk)); (True ∧ (True ∧ (True ∧ ((((0 : Nat) ≤ z3) ∧ (∀ (i : Nat), ((i < (0 : Nat)) → ((whB (bt s i)) = Bool.true)))) ∧ (((Bool.true = Bool.true) ∧ ((((z0 = z0) ∧ (NamelessL [z1, z5])) ∧ (z7 = z7)) ∧ ((True ∧ (z1 = z1)) ∧ ((True ∧ (z4 = z4)) ∧ ((True ∧ (z6 = z6)) ∧ True))))) ∧ ((Unit → ((∀ (i : Nat), ((i < z3) → ((whB (bt s i)) = Bool.true))) → (True ∧ (True ∧ (True ∧ (True ∧ (True ∧ ((D.v (Value.int IntKind.i64 ((z3 : Nat) : Int))) = z2)))))))) ∧ (∀ (r : Nat), (((r < z3) ∧ (((whB (bt s r)) = Bool.false) ∧ (∀ (i : Nat), ((i < r) → ((whB (bt s i)) = Bool.true))))) → (True ∧ (True ∧ ((D.v (Value.int IntKind.i64 ((r : Nat) : Int))) = z2)))))))))))) (by kernel_rfl) ?_
  simp only [true_and, and_true, and_self, IsInt_lit, IsBool_lit, IsStr_lit, IsSl_lit, cellN_lit, cellL_lit, Bool.not_eq_true', Bool.not_eq_false', Bool.not_true, Bool.not_false, Int.reduceLE, Int.reduceLT, Int.reduceNeg, Nat.le_refl, Int.le_refl, Nat.reduceLT, Nat.reduceLeDiff, Nat.reduceEqDiff, D.v.injEq, D.tup.injEq, D.agg.injEq, D.ro.injEq, List.cons.injEq, Value.int.injEq, Value.bool.injEq, pcond_true, pcond_false, NamelessL, Nameless, Nat.reduceMul, Nat.reduceAdd, Nat.zero_add, Int.toNat_natCast]
  refine ⟨⟨Nat.zero_le _, fun i h => absurd h (Nat.not_lt_zero _)⟩, fun _ h => by rw [spN_all h], fun r h => by rw [spN_at h.1 h.2.1 h.2.2]⟩
def ent_spanW : Ent := fun ds => match ds with
  | [.v (.string s), .fn 43 0 []] => some (.v (.int .i64 (spN whB s : Nat)), s.size ≤ 9223372036854775807)
  | _ => none
theorem ent_spanW_ok : EntOk Try.prog 36 ent_spanW := by
  intro ds d c h hc; unfold ent_spanW at h; split at h
  · obtain ⟨rfl, rfl⟩ := pair_inj h; exact spanW_pure _ hc
  · cases h
theorem dec_line (s : ByteArray) (x : Nat) (hx : x < s.size) : ((Utf8.decode s x).1 = 10 ↔ bt s x = 10) ∧ (bt s x ≠ 10 → 1 ≤ (Utf8.decode s x).2 ∧ ∀ i, x ≤ i → i < x + (Utf8.decode s x).2 → i < s.size ∧ bt s i ≠ 10) := by
  by_cases h : bt s x < 128
  · rw [dec_ascii h]
    refine ⟨Iff.rfl, fun hn => ⟨Nat.le_refl _, fun i h1 h2 => ?_⟩⟩
    have : i = x := by omega
    subst this; exact ⟨hx, hn⟩
  · have hh := dec_high (show 128 ≤ bt s x by omega) (bt_lt s x)
    refine ⟨⟨fun e => by omega, fun e => by omega⟩, fun hn => ?_⟩
    unfold Utf8.decode
    simp only [Nat.add_zero, get_bt]
    rw [if_neg h]
    have one : ∀ i, x ≤ i → i < x + 1 → i < s.size ∧ bt s i ≠ 10 := fun i h1 h2 => by
      have : i = x := by omega
      subst this; exact ⟨hx, hn⟩
    have at_ : ∀ i k, i = x + k → (decide (x + k < s.size) && bt s (x + k) / 64 == 2) = true → i < s.size ∧ bt s i ≠ 10 := fun i k e hc => by
      simp only [Bool.and_eq_true, decide_eq_true_eq, beq_iff_eq] at hc
      subst e; exact ⟨hc.1, by omega⟩
    split
    · rename_i hc
      simp only [Bool.and_eq_true] at hc
      split
      · refine ⟨by simp, fun i h1 h2 => ?_⟩
        simp only at h2
        rcases Nat.lt_or_ge i (x + 1) with h3 | h3
        · exact one i h1 h3
        · exact at_ i 1 (by omega) (by simpa using hc.2)
      · exact ⟨by simp, fun i h1 h2 => one i h1 h2⟩
    · split
      · rename_i hc
        simp only [Bool.and_eq_true] at hc
        split
        · refine ⟨by simp, fun i h1 h2 => ?_⟩
          simp only at h2
          rcases Nat.lt_or_ge i (x + 1) with h3 | h3
          · exact one i h1 h3
          · rcases Nat.lt_or_ge i (x + 2) with h4 | h4
            · exact at_ i 1 (by omega) (by simpa using hc.1.2)
            · exact at_ i 2 (by omega) (by simpa using hc.2)
        · exact ⟨by simp, fun i h1 h2 => one i h1 h2⟩
      · split
        · rename_i hc
          simp only [Bool.and_eq_true] at hc
          split
          · refine ⟨by simp, fun i h1 h2 => ?_⟩
            simp only at h2
            rcases Nat.lt_or_ge i (x + 1) with h3 | h3
            · exact one i h1 h3
            · rcases Nat.lt_or_ge i (x + 2) with h4 | h4
              · exact at_ i 1 (by omega) (by simpa using hc.1.1.2)
              · rcases Nat.lt_or_ge i (x + 3) with h5 | h5
                · exact at_ i 2 (by omega) (by simpa using hc.1.2)
                · exact at_ i 3 (by omega) (by simpa using hc.2)
          · exact ⟨by simp, fun i h1 h2 => one i h1 h2⟩
        · exact ⟨by simp, fun i h1 h2 => one i h1 h2⟩
def lp_spanRLoop (s : ByteArray) : LoopO := loopRule2 (α := Nat) (β := Unit) (γ := Nat) [some 0] (fun n => n ≤ s.size ∧ ∀ i, i < n → nlB (bt s i) = true) (fun n => [(0, .v (.string s)), (1, .fn 45 0 []), (8, .ptr 0 0)]) (fun n => [some ⟨itTy, [.v (.string s), .v (.int .i64 (n : Int))], true⟩]) (0) (fun _ => ∀ i, i < s.size → nlB (bt s i) = true) (fun _ => (.exit 0, [(0, .v (.string s))], [])) (fun n => n < s.size ∧ nlB (bt s n) = false ∧ ∀ i, i < n → nlB (bt s i) = true) (fun n => (.ret, [(4, .v (.int .i64 (n : Int)))], []))
theorem spanRLoop_rule (s : ByteArray) (hpre : s.size ≤ 9223372036854775807) : LRuleP Try.prog Try.f36.ntmps (loopAt ((Try.f36.body).getD .skip) 2) (lp_spanRLoop s) := by
  refine lrule_of2 (α := Nat) (β := Unit) (γ := Nat) (call := (addPure 45 ent_isRest noCalls)) (lp := fun _ => none) (N := 10) T_ok mixed (addPure_ok ent_isRest_ok noCalls_ok) (fun n => s.size - n) (by kernel_rfl) (LpAllP.none _) ?_
  intro x hJ
  refine of_eq (B := letI z9 := (D.v (Value.string s)); letI z6 := (Int.toNat ((x : Nat) : Int)); letI z0 := (Option.some (Blk.mk (1000000007 : Nat) [z9, (D.v (Value.int IntKind.i64 (((z6 + (Prod.snd (Utf8.decode s z6))) : Nat) : Int)))] Bool.true)); letI z7 := (Exit.exit (0 : Nat)); letI z2 := (Prod.mk (0 : Nat) z9); letI z5 := ([] : List (Option Blk)); letI z1 := (Prod.mk z7 (Prod.mk [z2] z5)); letI z10 := (D.v (Value.int IntKind.i64 ((x : Nat) : Int))); letI z3 := (Option.some (Blk.mk (1000000007 : Nat) [z9, z10] Bool.true)); letI z4 := ByteArray.size s; letI z8 := (List (Option Nat)); letI z11 := (Prod.mk (8 : Nat) (D.ptr (0 : Nat) (0 : Nat))); (pcond (Decidable.decide (z6 < z4)) (True ∧ (True ∧ (True ∧ (True ∧ (True ∧ (True ∧ (True ∧ (True ∧ (True ∧ (pcond (!(!(Decidable.decide ((((Prod.fst (Utf8.decode s z6)) : Nat) : Int) = (10 : Int))))) (True ∧ (True ∧ ((∃ (r : Unit), (∃ (kp : z8), ((∀ (i : Nat), ((i < z4) → ((nlB (bt s i)) = Bool.true))) ∧ ((Exit.ret = z7) ∧ (viewAll kp [z2] [z0] (Prod.fst (Prod.snd ((fun (x_1 : Unit) => z1) r))) (Prod.snd (Prod.snd ((fun (x_1 : Unit) => z1) r)))))))) ∨ (∃ (r : Nat), (∃ (kp : z8), (((r < z4) ∧ (((nlB (bt s r)) = Bool.false) ∧ (∀ (i : Nat), ((i < r) → ((nlB (bt s i)) = Bool.true))))) ∧ ((Exit.ret = Exit.ret) ∧ (viewAll kp [(Prod.mk (4 : Nat) z10)] [z0] (Prod.fst (Prod.snd ((fun (n : Nat) => (Prod.mk Exit.ret (Prod.mk [(Prod.mk (4 : Nat) (D.v (Value.int IntKind.i64 ((n : Nat) : Int))))] z5))) r))) (Prod.snd (Prod.snd ((fun (n : Nat) => (Prod.mk Exit.ret (Prod.mk [(Prod.mk (4 : Nat) (D.v (Value.int IntKind.i64 ((n : Nat) : Int))))] z5))) r))))))))))) (∃ (y : Nat), (∃ (kp : z8), (((z4 - y) < (z4 - x)) ∧ (((y ≤ z4) ∧ (∀ (i : Nat), ((i < y) → ((nlB (bt s i)) = Bool.true)))) ∧ (viewAll kp [z2, (Prod.mk (1 : Nat) (D.fn (45 : Nat) (0 : Nat) ([] : List D))), z11] [z0] [z2, (Prod.mk (1 : Nat) (D.fn (45 : FuncId) (0 : Nat) ([] : List D))), z11] [(Option.some (Blk.mk itTy [z9, (D.v (Value.int IntKind.i64 ((y : Nat) : Int)))] Bool.true))]))))))))))))))) (True ∧ ((∃ (r : Unit), (∃ (kp : z8), ((∀ (i : Nat), ((i < z4) → ((nlB (bt s i)) = Bool.true))) ∧ ((z7 = z7) ∧ (viewAll kp [z2] [z3] (Prod.fst (Prod.snd ((fun (x_1 : Unit) => z1) r))) (Prod.snd (Prod.snd ((fun (x_1 : Unit) => z1) r)))))))) ∨ (∃ (r : Nat), (∃ (kp : z8), (((r < z4) ∧ (((nlB (bt s r)) = Bool.false) ∧ (∀ (i : Nat), ((i < r) → ((nlB (bt s i)) = Bool.true))))) ∧ ((z7 = Exit.ret) ∧ (viewAll kp ([] : List (Prod Nat D)) [z3] (Prod.fst (Prod.snd ((fun (n : Nat) => (Prod.mk Exit.ret (Prod.mk [(Prod.mk (4 : Nat) (D.v (Value.int IntKind.i64 ((n : Nat) : Int))))] z5))) r))) (Prod.snd (Prod.snd ((fun (n : Nat) => (Prod.mk Exit.ret (Prod.mk [(Prod.mk (4 : Nat) (D.v (Value.int IntKind.i64 ((n : Nat) : Int))))] z5))) r)))))))))))) (by kernel_rfl) ?_
  simp only [true_and, and_true, and_self, IsInt_lit, IsBool_lit, IsStr_lit, IsSl_lit, cellN_lit, cellL_lit, Bool.not_eq_true', Bool.not_eq_false', Bool.not_true, Bool.not_false, Int.reduceLE, Int.reduceLT, Int.reduceNeg, Nat.le_refl, Int.le_refl, Nat.reduceLT, Nat.reduceLeDiff, Nat.reduceEqDiff, D.v.injEq, D.tup.injEq, D.agg.injEq, D.ro.injEq, List.cons.injEq, Value.int.injEq, Value.bool.injEq, pcond_true, pcond_false, NamelessL, Nameless, Nat.reduceMul, Nat.reduceAdd, Nat.zero_add, Int.toNat_natCast] at *
  obtain ⟨hx, hall⟩ := hJ
  refine pcond_intro (fun h => ?_) (fun h => .inl ⟨(), [], ?_, ?_⟩)
  · simp only [decide_eq_true_eq] at h
    obtain ⟨p1, p2⟩ := dec_line s x h
    have e : decide ((((Utf8.decode s x).1 : Nat) : Int) = 10) = decide (bt s x = 10) := by
      rw [Bool.eq_iff_iff, decide_eq_true_eq, decide_eq_true_eq, ← p1]; omega
    rw [e]
    refine pcond_intro (fun h1 => .inr ⟨x, [], ⟨h, by simpa [nlB] using h1, hall⟩, ?_⟩) (fun h1 => ?_)
    · refine of_eq (B := letI z0 := (D.v (Value.int IntKind.i64 ((x : Nat) : Int))); letI z1 := ([] : List (Option Blk)); ((Bool.true = Bool.true) ∧ ((z1 = z1) ∧ ((True ∧ (z0 = z0)) ∧ True)))) (by kernel_rfl) ?_
      simp
    · have h1 : bt s x ≠ 10 := by simpa using h1
      obtain ⟨q1, q2⟩ := p2 h1
      have hle : x + (Utf8.decode s x).2 ≤ s.size := by
        have := (q2 (x + (Utf8.decode s x).2 - 1) (by omega) (by omega)).1; omega
      refine ⟨x + (Utf8.decode s x).2, [some 0], by omega, ⟨hle, fun i hi => ?_⟩, ?_⟩
      · rcases Nat.lt_or_ge i x with h2 | h2
        · exact hall i h2
        · have := (q2 i h2 hi).2; unfold nlB; rw [decide_eq_false this]; rfl
      · refine of_eq (B := letI z2 := (D.v (Value.string s)); letI z1 := (D.v (Value.int IntKind.i64 (((x + (Prod.snd (Utf8.decode s x))) : Nat) : Int))); letI z0 := (Option.some (Blk.mk (1000000007 : Nat) [z2, z1] Bool.true)); letI z3 := (D.fn (45 : Nat) (0 : Nat) ([] : List D)); letI z4 := (D.ptr (0 : Nat) (0 : Nat)); letI z5 := ([] : List (Option Blk)); ((Bool.true = Bool.true) ∧ ((((z0 = z0) ∧ (NamelessL [z2, z1])) ∧ (z5 = z5)) ∧ ((True ∧ (z2 = z2)) ∧ ((True ∧ (z3 = z3)) ∧ ((True ∧ (z4 = z4)) ∧ True)))))) (by kernel_rfl) ?_
        simp [NamelessL, Nameless]
  · simp only [decide_eq_false_iff_not] at h
    intro i hi
    exact hall i (by omega)
  · refine of_eq (B := letI z0 := ([] : List (Option Blk)); letI z1 := (D.v (Value.string s)); ((Bool.true = Bool.true) ∧ ((z0 = z0) ∧ ((True ∧ (z1 = z1)) ∧ True)))) (by kernel_rfl) ?_
    simp
theorem spanR_pure (s : ByteArray) (hpre : s.size ≤ 9223372036854775807) : PureJ Try.prog 36 [.v (.string s), .fn 45 0 []] (.v (.int .i64 (spN nlB s : Nat))) := by
  refine pureJ_of_vcp (call := noCalls) (lp := fun k => bif Nat.beq k 2 then some (lp_spanRLoop s) else none) (N := 10) T_ok mixed noCalls_ok Try.func36 rfl (by decide) (by kernel_rfl) (by kernel_rfl) (of_eq (B := LRuleP Try.prog Try.f36.ntmps (loopAt ((Try.f36.body).getD .skip) 2) (lp_spanRLoop s) ∧ True) (by kernel_rfl) ⟨spanRLoop_rule s hpre, trivial⟩) (by first | trivial | (simp only [NamelessL, Nameless, and_self, and_true, true_and]; done) | (simp [NamelessL, Nameless, u32s_nameless, namelessL_ints]; done)) (by first | trivial | (simp only [NamelessL, Nameless, and_self, and_true, true_and]; done) | (simp [NamelessL, Nameless, u32s_nameless, namelessL_ints]; done)) ?_
  refine of_eq (B := letI z1 := (D.v (Value.string s)); letI z5 := (D.v (Value.int IntKind.i64 (0 : Int))); letI z0 := (Option.some (Blk.mk (1000000007 : Nat) [z1, z5] Bool.true)); letI z2 := (D.v (Value.int IntKind.i64 (((spN nlB s) : Nat) : Int))); letI z3 := ByteArray.size s; letI z4 := (D.fn (45 : Nat) (0 : Nat) ([] : List D)); letI z6 := (D.ptr (0 : Nat) (0 : Nat)); letI z7 := ([] : List (Option Blk)); (True ∧ (True ∧ (True ∧ ((((0 : Nat) ≤ z3) ∧ (∀ (i : Nat), ((i < (0 : Nat)) → ((nlB (bt s i)) = Bool.true)))) ∧ (((Bool.true = Bool.true) ∧ ((((z0 = z0) ∧ (NamelessL [z1, z5])) ∧ (z7 = z7)) ∧ ((True ∧ (z1 = z1)) ∧ ((True ∧ (z4 = z4)) ∧ ((True ∧ (z6 = z6)) ∧ True))))) ∧ ((Unit → ((∀ (i : Nat), ((i < z3) → ((nlB (bt s i)) = Bool.true))) → (True ∧ (True ∧ (True ∧ (True ∧ (True ∧ ((D.v (Value.int IntKind.i64 ((z3 : Nat) : Int))) = z2)))))))) ∧ (∀ (r : Nat), (((r < z3) ∧ (((nlB (bt s r)) = Bool.false) ∧ (∀ (i : Nat), ((i < r) → ((nlB (bt s i)) = Bool.true))))) → (True ∧ (True ∧ ((D.v (Value.int IntKind.i64 ((r : Nat) : Int))) = z2)))))))))))) (by kernel_rfl) ?_
  simp only [true_and, and_true, and_self, IsInt_lit, IsBool_lit, IsStr_lit, IsSl_lit, cellN_lit, cellL_lit, Bool.not_eq_true', Bool.not_eq_false', Bool.not_true, Bool.not_false, Int.reduceLE, Int.reduceLT, Int.reduceNeg, Nat.le_refl, Int.le_refl, Nat.reduceLT, Nat.reduceLeDiff, Nat.reduceEqDiff, D.v.injEq, D.tup.injEq, D.agg.injEq, D.ro.injEq, List.cons.injEq, Value.int.injEq, Value.bool.injEq, pcond_true, pcond_false, NamelessL, Nameless, Nat.reduceMul, Nat.reduceAdd, Nat.zero_add, Int.toNat_natCast]
  refine ⟨⟨Nat.zero_le _, fun i h => absurd h (Nat.not_lt_zero _)⟩, fun _ h => by rw [spN_all h], fun r h => by rw [spN_at h.1 h.2.1 h.2.2]⟩
def ent_spanR : Ent := fun ds => match ds with
  | [.v (.string s), .fn 45 0 []] => some (.v (.int .i64 (spN nlB s : Nat)), s.size ≤ 9223372036854775807)
  | _ => none
theorem ent_spanR_ok : EntOk Try.prog 36 ent_spanR := by
  intro ds d c h hc; unfold ent_spanR at h; split at h
  · obtain ⟨rfl, rfl⟩ := pair_inj h; exact spanR_pure _ hc
  · cases h
end Go.Proofs.Ytahiigfpikohgaa
end
section
namespace Go.Proofs.Ytahiigfpikohgaa
open Go.VD
set_option linter.unusedVariables false
set_option linter.unusedSimpArgs false
set_option maxRecDepth 100000
def pB (k : Nat) : Nat → Bool := bif Nat.beq k 43 then whB else bif Nat.beq k 45 then nlB else bif Nat.beq k 37 then qB else plB
def PK (k : Nat) : Prop := k = 43 ∨ k = 45 ∨ k = 37 ∨ k = 47
def ent_spanG : Ent := fun ds => match ds with
  | [.v (.string s), .fn k 0 []] => some (.v (.int .i64 (spN (pB k) s : Nat)), s.size ≤ 9223372036854775807 ∧ PK k)
  | _ => none
theorem ent_spanG_ok : EntOk Try.prog 36 ent_spanG := by
  intro ds d c h hc; unfold ent_spanG at h; split at h
  · obtain ⟨rfl, rfl⟩ := pair_inj h
    obtain ⟨h1, rfl | rfl | rfl | rfl⟩ := hc
    · exact spanW_pure _ h1
    · exact spanR_pure _ h1
    · exact spanQ_pure _ h1
    · exact spanP_pure _ h1
  · cases h
def nlc (s : ByteArray) : Nat := Lib.countByte s.data.toList 10
theorem cntNl_pure (s : ByteArray) : PureJ Try.prog 53 [.v (.string s), .v (.string ⟨#[10]⟩)] (.v (.int .i64 (nlc s : Nat))) := by
  refine pureJ_of_vcp (call := (addExt 60 ent_x_count noCalls)) (lp := fun k => bif Nat.beq k 6 then some (lp_never ) else none) (N := 10) T_ok mixed (addExt_ok ent_x_count_ok noCalls_ok) Try.func53 rfl (by decide) (by kernel_rfl) (by kernel_rfl) (of_eq (B := LRuleP Try.prog Try.f53.ntmps (loopAt ((Try.f53.body).getD .skip) 6) (lp_never ) ∧ True) (by kernel_rfl) ⟨never_rule , trivial⟩) (by first | trivial | (simp only [NamelessL, Nameless, and_self, and_true, true_and]; done) | (simp [NamelessL, Nameless, u32s_nameless, namelessL_ints]; done)) (by first | trivial | (simp only [NamelessL, Nameless, and_self, and_true, true_and]; done) | (simp [NamelessL, Nameless, u32s_nameless, namelessL_ints]; done)) ?_
  refine of_eq (B := (True ∧ (True ∧ (True ∧ (True ∧ (True ∧ (True ∧ (True ∧ (True ∧ (True ∧ ((((0 : Int) ≤ (0 : Int)) ∧ ((0 : Int) < (1 : Int))) ∧ (True ∧ (True ∧ (True ∧ (True ∧ ((D.v (Value.int IntKind.i64 (((Lib.countByte (Array.toList (ByteArray.data s)) (UInt8.ofBitVec (BitVec.ofFin (Fin.mk (10 : Nat) (Nat.mod_lt (Int.toNat (10 : Int)) (BitVec.ofNat._proof_1 (8 : Nat))))))) : Nat) : Int))) = (D.v (Value.int IntKind.i64 (((nlc s) : Nat) : Int))))))))))))))))))) (by kernel_rfl) ?_
  simp only [true_and, and_true, and_self, IsInt_lit, IsBool_lit, IsStr_lit, IsSl_lit, cellN_lit, cellL_lit, Bool.not_eq_true', Bool.not_eq_false', Bool.not_true, Bool.not_false, Int.reduceLE, Int.reduceLT, Int.reduceNeg, Nat.le_refl, Int.le_refl, Nat.reduceLT, Nat.reduceLeDiff, Nat.reduceEqDiff, D.v.injEq, D.tup.injEq, D.agg.injEq, D.ro.injEq, List.cons.injEq, Value.int.injEq, Value.bool.injEq, pcond_true, pcond_false, NamelessL, Nameless, Nat.reduceMul, Nat.reduceAdd, Nat.zero_add, Int.toNat_natCast]
  rfl
def ent_cntNl : Ent := fun ds => match ds with
  | [.v (.string s), .v (.string m)] => some (.v (.int .i64 (nlc s : Nat)), m = ⟨#[10]⟩)
  | _ => none
theorem ent_cntNl_ok : EntOk Try.prog 53 ent_cntNl := by
  intro ds d c h hc; unfold ent_cntNl at h; split at h
  · obtain ⟨rfl, rfl⟩ := pair_inj h
    subst hc
    exact cntNl_pure _
  · cases h
def tk (p : Nat → Bool) (s : ByteArray) : ByteArray := s.extract 0 (spN p s)
def rs (p : Nat → Bool) (s : ByteArray) : ByteArray := s.extract (spN p s) s.size
def RdOk (s : ByteArray) (n : Int) : Prop := 0 ≤ n ∧ n + s.size ≤ 1000000
theorem countByte_le (l : List UInt8) (b : UInt8) : Lib.countByte l b ≤ l.length := by
  unfold Lib.countByte
  exact List.count_le_length
theorem size_extract (s : ByteArray) (a b : Nat) (hb : b ≤ s.size) : (s.extract a b).size = b - a := by
  rw [ByteArray.size_extract]; omega
theorem tk_size (p : Nat → Bool) (s : ByteArray) : (tk p s).size = spN p s := by
  unfold tk; rw [size_extract _ _ _ (spN_le p s)]; rfl
theorem rs_size (p : Nat → Bool) (s : ByteArray) : (rs p s).size = s.size - spN p s := by
  unfold rs; rw [size_extract _ _ _ (Nat.le_refl _)]
theorem nlc_le (s : ByteArray) : nlc s ≤ s.size := by
  unfold nlc
  have := countByte_le s.data.toList 10
  rwa [size_list]
theorem RdOk.take {s : ByteArray} {n : Int} (h : RdOk s n) (p : Nat → Bool) : RdOk (rs p s) (n + nlc (tk p s)) := by
  have h1 := spN_le p s
  have h2 := nlc_le (tk p s)
  rw [tk_size] at h2
  obtain ⟨h3, h4⟩ := h
  refine ⟨by omega, ?_⟩
  rw [rs_size]; omega
theorem take_call (s : ByteArray) (n : Int) (m : Int) (k : Nat) (hpre : RdOk s n ∧ PK k) : CallJ Try.prog 42 [.ptr 0 0, .fn k 0 []] ([some ⟨56, [.v (.string s), .v (.int .i64 n), .v (.int .i64 m)], true⟩]) (.v (.string (tk (pB k) s))) ([some ⟨56, [.v (.string (rs (pB k) s)), .v (.int .i64 (n + nlc (tk (pB k) s))), .v (.int .i64 m)], true⟩]) := by
  refine callJ_of_vck (k := 1) (call := (addPure 36 ent_spanG (addPure 53 ent_cntNl noCalls))) (lp := fun _ => none) (N := 10) T_ok mixed (addPure_ok ent_spanG_ok (addPure_ok ent_cntNl_ok noCalls_ok)) Try.func42 rfl (by decide) (by kernel_rfl) (by kernel_rfl) rfl (LpAllK.none _) ?_
  refine of_eq (B := letI z0 := (((spN (pB k) s) : Nat) : Int); letI z1 := (((0 : Nat) < (3 : Nat)) ∧ (IsStr (D.v (Value.string s)))); letI z5 := ByteArray.size s; letI z2 := (((0 : Int) ≤ z0) ∧ (z0 ≤ ((z5 : Nat) : Int))); letI z3 := (ByteArray.extract s (0 : Nat) (Int.toNat z0)); letI z4 := (ByteArray.mk (Array.mk [(10 : UInt8)])); letI z6 := (D.v (Value.int IntKind.i64 m)); letI z7 := ((1 : Nat) = (1 : Nat)); (True ∧ (True ∧ (True ∧ (True ∧ (z1 ∧ (True ∧ (((z5 ≤ (9223372036854775807 : Nat)) ∧ (PK k)) ∧ (True ∧ (True ∧ (True ∧ (True ∧ (z1 ∧ (True ∧ ((True ∧ (z2 ∧ True)) ∧ (True ∧ (True ∧ (True ∧ (True ∧ (True ∧ (z1 ∧ (True ∧ ((z2 ∧ (True ∧ True)) ∧ (True ∧ (True ∧ ((z7 ∧ ((1 : Nat) ≤ (3 : Nat))) ∧ (True ∧ (True ∧ (True ∧ ((((1 : Nat) < (3 : Nat)) ∧ (IsInt IntKind.i64 (D.v (Value.int IntKind.i64 n)))) ∧ (True ∧ ((z4 = z4) ∧ (True ∧ (True ∧ (True ∧ ((z7 ∧ ((2 : Nat) ≤ (3 : Nat))) ∧ ((Bool.true = Bool.true) ∧ (True ∧ (True ∧ (True ∧ (∃ (kp : (List KE)), (viewFin (1 : Nat) kp [(Option.some (Blk.mk (56 : Nat) [(D.v (Value.string (ByteArray.extract s (Int.toNat z0) z5))), (D.v (Value.int IntKind.i64 (IntKind.wrap IntKind.i64 (n + (((nlc z3) : Nat) : Int))))), z6] Bool.true))] (D.v (Value.string z3)) (D.v (Value.string (tk (pB k) s))) [(Option.some (Blk.mk (56 : TypeId) [(D.v (Value.string (rs (pB k) s))), (D.v (Value.int IntKind.i64 (n + (((nlc (tk (pB k) s)) : Nat) : Int)))), z6] Bool.true))])))))))))))))))))))))))))))))))))))))))))) (by kernel_rfl) ?_
  simp only [true_and, and_true, and_self, IsInt_lit, IsBool_lit, IsStr_lit, IsSl_lit, cellN_lit, cellL_lit, Bool.not_eq_true', Bool.not_eq_false', Bool.not_true, Bool.not_false, Int.reduceLE, Int.reduceLT, Int.reduceNeg, Nat.le_refl, Int.le_refl, Nat.reduceLT, Nat.reduceLeDiff, Nat.reduceEqDiff, D.v.injEq, D.tup.injEq, D.agg.injEq, D.ro.injEq, List.cons.injEq, Value.int.injEq, Value.bool.injEq, pcond_true, pcond_false, NamelessL, Nameless, Nat.reduceMul, Nat.reduceAdd, Nat.zero_add, Int.toNat_natCast]
  obtain ⟨h1, h2⟩ := hpre
  have h3 := spN_le (pB k) s
  have h4 := h1.take (pB k)
  have e : (s.extract 0 (spN (pB k) s)) = tk (pB k) s := rfl
  have h5 : 0 ≤ n ∧ n + s.size ≤ 1000000 := h1
  have h6 : 0 ≤ n + (nlc (tk (pB k) s) : Int) ∧ n + nlc (tk (pB k) s) + (rs (pB k) s).size ≤ 1000000 := h4
  refine ⟨⟨by omega, h2⟩, by omega, by omega, [.old 0], ?_⟩
  rw [e, show s.extract (spN (pB k) s) s.size = rs (pB k) s from rfl, wrap_i64_of (by omega) (by omega)]
  refine of_eq (B := letI z2 := (D.v (Value.string (rs (pB k) s))); letI z1 := (D.v (Value.int IntKind.i64 (n + (((nlc (tk (pB k) s)) : Nat) : Int)))); letI z4 := (D.v (Value.int IntKind.i64 m)); letI z0 := (Option.some (Blk.mk (56 : Nat) [z2, z1, z4] Bool.true)); letI z3 := (D.v (Value.string (tk (pB k) s))); letI z5 := ([] : List (Option Blk)); ((Bool.true = Bool.true) ∧ ((((z0 = z0) ∧ (NamelessL [z2, z1, z4])) ∧ (z5 = z5)) ∧ (True ∧ (z3 = z3))))) (by kernel_rfl) ?_
  simp [NamelessL, Nameless]
def entp_take : EntP := fun off plain blk => match off, plain, blk with
  | 0, [.fn k 0 []], ⟨ty, [.v (.string s), .v (.int .i64 n), .v (.int .i64 m)], true⟩ => some (.v (.string (tk (pB k) s)), ⟨ty, [.v (.string (rs (pB k) s)), .v (.int .i64 (n + nlc (tk (pB k) s))), .v (.int .i64 m)], true⟩, ty = 56 ∧ RdOk s n ∧ PK k)
  | _, _, _ => none
theorem entp_take_ok : EntPOk Try.prog 42 entp_take := by
  intro off plain blk d blk' p h hp; unfold entp_take at h; split at h
  · injection h with h
    simp only [Prod.mk.injEq] at h
    obtain ⟨rfl, rfl, rfl⟩ := h
    obtain ⟨rfl, hp⟩ := hp
    exact ⟨take_call _ _ _ _ hp, by simp [NamelessL, Nameless], by simp [Nameless], by simp [NamelessL, Nameless], by simp [NamelessL, Nameless]⟩
  · cases h
structure Tok where
  k : Int
  t : ByteArray
  q : Bool
  a : Int
  e : Int
  s : ByteArray
  n : Int
def d_tok (k : Int) (t : ByteArray) (q : Bool) (n : Int) : D := .agg [.v (.int .u8 k), .v (.string t), .v (.bool q), .v (.int .i64 n)]
def d_res (x : Tok) : D := .tup [d_tok x.k x.t x.q x.a, .v (.int .i64 x.e)]
def d_bld (x : Tok) (m : Int) : Blk := ⟨56, [.v (.string x.s), .v (.int .i64 x.n), .v (.int .i64 m)], true⟩
def endT (s : ByteArray) (n : Int) (w : ByteArray) (q : Bool) (a : Int) : Tok := bif decide (120 < w.size) then ⟨0, ⟨#[]⟩, false, a, 4, s, n⟩ else bif decide (s.size ≠ 0) && (decide (bt s 0 = 34) || plB (bt s 0)) then ⟨0, ⟨#[]⟩, false, a, 6, s, n⟩ else ⟨34, w, q, a, 0, s, n⟩
theorem fin_tok {X Y : Tok} {m : Int} {T : Heap} (e : X = Y) : ∃ kp, viewFin 1 kp (some (d_bld Y m) :: T) (d_res Y) (d_res X) [some (d_bld X m)] := by
  subst e
  refine ⟨[.old 0], ?_⟩
  unfold d_bld d_res d_tok
  refine of_eq (B := letI z0 := (D.tup [(D.agg [(D.v (Value.int IntKind.u8 (Tok.k X))), (D.v (Value.string (Tok.t X))), (D.v (Value.bool (Tok.q X))), (D.v (Value.int IntKind.i64 (Tok.a X)))]), (D.v (Value.int IntKind.i64 (Tok.e X)))]); letI z4 := (D.v (Value.string (Tok.s X))); letI z2 := (D.v (Value.int IntKind.i64 (Tok.n X))); letI z3 := (D.v (Value.int IntKind.i64 m)); letI z1 := (Option.some (Blk.mk (56 : Nat) [z4, z2, z3] Bool.true)); letI z5 := ([] : List (Option Blk)); ((Bool.true = Bool.true) ∧ ((((z1 = z1) ∧ (NamelessL [z4, z2, z3])) ∧ (z5 = z5)) ∧ (((True ∧ (True ∧ (True ∧ (True ∧ True)))) ∧ (True ∧ True)) ∧ (z0 = z0))))) (by kernel_rfl) ?_
  simp [NamelessL, Nameless]
theorem bt_i32 (s : ByteArray) (i : Nat) : IntKind.i32.wrap ((s.data.toList.getD i 0).toNat : Int) = (bt s i : Int) := by
  have : (s.data.toList.getD i 0).toNat < 256 := UInt8.toNat_lt _
  rw [IntKind.wrap_i32]; unfold bt; omega
theorem pl_int (n : Nat) : (letI' (n : Int) || (decide (48 ≤ (n : Int)) && decide ((n : Int) ≤ 57) || decide (0 ≤ mkI (n : Int)))) = plB n := by
  rw [let_int, digB_int, mark_int]; rfl
theorem ended_call (s : ByteArray) (n : Int) (m : Int) (w : ByteArray) (q : Bool) (a : Int) (hpre : s.size ≤ 1000000 ∧ w.size ≤ 1000000) : CallJ Try.prog 48 [.ptr 0 0, d_tok 0 ⟨#[]⟩ false a, .agg [.v (.string w), .v (.bool q)]] ([some ⟨56, [.v (.string s), .v (.int .i64 n), .v (.int .i64 m)], true⟩]) (d_res (endT s n w q a)) ([some (d_bld (endT s n w q a) m)]) := by
  refine callJ_of_vck (k := 1) (call := (addPure 47 ent_isPlain (addPure 57 ent_sclone noCalls))) (lp := fun _ => none) (N := 10) T_ok mixed (addPure_ok ent_isPlain_ok (addPure_ok ent_sclone_ok noCalls_ok)) Try.func48 rfl (by decide) (by kernel_rfl) (by kernel_rfl) rfl (LpAllK.none _) ?_
  refine of_eq (B := (True ∧ (True ∧ (True ∧ (True ∧ (True ∧ ((((0 : Nat) < (2 : Nat)) ∧ (IsStr (D.v (Value.string w)))) ∧ (True ∧ (True ∧ (pcond (Decidable.decide ((120 : Int) < (((ByteArray.size w) : Nat) : Int))) (((4 : Nat) ≤ (4 : Nat)) ∧ ((((4 : Nat) = (4 : Nat)) ∧ ((4 : Nat) ≤ (4 : Nat))) ∧ (True ∧ ((((4 : Nat) ≤ (4 : Nat)) ∧ True) ∧ (∃ (kp : (List KE)), (viewFin (1 : Nat) kp [(Option.some (Blk.mk (56 : Nat) [(D.v (Value.string s)), (D.v (Value.int IntKind.i64 n)), (D.v (Value.int IntKind.i64 m))] Bool.true)), (Option.some (Blk.mk (70 : Nat) [(D.v (Value.int IntKind.u8 (0 : Int))), (D.v (Value.string (ByteArray.mk (Array.mk ([] : List UInt8))))), (D.v (Value.bool Bool.false)), (D.v (Value.int IntKind.i64 a))] Bool.true)), (Option.some (Blk.mk (51 : Nat) [(D.v (Value.string w)), (D.v (Value.bool q))] Bool.true)), (Option.some (Blk.mk (70 : Nat) [(D.v (Value.int IntKind.u8 (0 : Int))), (D.v (Value.string (ByteArray.mk (Array.mk ([] : List UInt8))))), (D.v (Value.bool Bool.false)), (D.v (Value.int IntKind.i64 a))] Bool.true))] (D.tup [(D.agg [(D.v (Value.int IntKind.u8 (0 : Int))), (D.v (Value.string (ByteArray.mk (Array.mk ([] : List UInt8))))), (D.v (Value.bool Bool.false)), (D.v (Value.int IntKind.i64 a))]), (D.v (Value.int IntKind.i64 (4 : Int)))]) (d_res (endT s n w q a)) [(Option.some (d_bld (endT s n w q a) m))])))))) (True ∧ (True ∧ (True ∧ ((((0 : Nat) < (3 : Nat)) ∧ (IsStr (D.v (Value.string s)))) ∧ (True ∧ (True ∧ (pcond (!((ByteArray.toList s) == ([] : List UInt8))) (True ∧ (True ∧ (True ∧ ((((0 : Nat) < (3 : Nat)) ∧ (IsStr (D.v (Value.string s)))) ∧ ((((0 : Int) ≤ (0 : Int)) ∧ ((0 : Int) < (((ByteArray.size s) : Nat) : Int))) ∧ (True ∧ (True ∧ (pcond ((((UInt8.toNat (List.getD (Array.toList (ByteArray.data s)) (0 : Nat) (0 : UInt8))) : Nat) : Int) == (34 : Int)) (True ∧ (True ∧ (((4 : Nat) ≤ (4 : Nat)) ∧ ((((4 : Nat) = (4 : Nat)) ∧ ((4 : Nat) ≤ (4 : Nat))) ∧ (True ∧ ((((4 : Nat) ≤ (4 : Nat)) ∧ True) ∧ (∃ (kp : (List KE)), (viewFin (1 : Nat) kp [(Option.some (Blk.mk (56 : Nat) [(D.v (Value.string s)), (D.v (Value.int IntKind.i64 n)), (D.v (Value.int IntKind.i64 m))] Bool.true)), (Option.some (Blk.mk (70 : Nat) [(D.v (Value.int IntKind.u8 (0 : Int))), (D.v (Value.string (ByteArray.mk (Array.mk ([] : List UInt8))))), (D.v (Value.bool Bool.false)), (D.v (Value.int IntKind.i64 a))] Bool.true)), (Option.some (Blk.mk (51 : Nat) [(D.v (Value.string w)), (D.v (Value.bool q))] Bool.true)), (Option.some (Blk.mk (70 : Nat) [(D.v (Value.int IntKind.u8 (0 : Int))), (D.v (Value.string (ByteArray.mk (Array.mk ([] : List UInt8))))), (D.v (Value.bool Bool.false)), (D.v (Value.int IntKind.i64 a))] Bool.true))] (D.tup [(D.agg [(D.v (Value.int IntKind.u8 (0 : Int))), (D.v (Value.string (ByteArray.mk (Array.mk ([] : List UInt8))))), (D.v (Value.bool Bool.false)), (D.v (Value.int IntKind.i64 a))]), (D.v (Value.int IntKind.i64 (6 : Int)))]) (d_res (endT s n w q a)) [(Option.some (d_bld (endT s n w q a) m))])))))))) (True ∧ (True ∧ (True ∧ ((((0 : Nat) < (3 : Nat)) ∧ (IsStr (D.v (Value.string s)))) ∧ ((((0 : Int) ≤ (0 : Int)) ∧ ((0 : Int) < (((ByteArray.size s) : Nat) : Int))) ∧ (True ∧ ((((0 : Int) ≤ (IntKind.wrap IntKind.i32 (((UInt8.toNat (List.getD (Array.toList (ByteArray.data s)) (0 : Nat) (0 : UInt8))) : Nat) : Int))) ∧ ((IntKind.wrap IntKind.i32 (((UInt8.toNat (List.getD (Array.toList (ByteArray.data s)) (0 : Nat) (0 : UInt8))) : Nat) : Int)) < (2147483648 : Int))) ∧ (True ∧ (True ∧ (pcond ((letI' (IntKind.wrap IntKind.i32 (((UInt8.toNat (List.getD (Array.toList (ByteArray.data s)) (0 : Nat) (0 : UInt8))) : Nat) : Int))) || (((Decidable.decide ((48 : Int) ≤ (IntKind.wrap IntKind.i32 (((UInt8.toNat (List.getD (Array.toList (ByteArray.data s)) (0 : Nat) (0 : UInt8))) : Nat) : Int)))) && (Decidable.decide ((IntKind.wrap IntKind.i32 (((UInt8.toNat (List.getD (Array.toList (ByteArray.data s)) (0 : Nat) (0 : UInt8))) : Nat) : Int)) ≤ (57 : Int)))) || (Decidable.decide ((0 : Int) ≤ (mkI (IntKind.wrap IntKind.i32 (((UInt8.toNat (List.getD (Array.toList (ByteArray.data s)) (0 : Nat) (0 : UInt8))) : Nat) : Int))))))) (((4 : Nat) ≤ (4 : Nat)) ∧ ((((4 : Nat) = (4 : Nat)) ∧ ((4 : Nat) ≤ (4 : Nat))) ∧ (True ∧ ((((4 : Nat) ≤ (4 : Nat)) ∧ True) ∧ (∃ (kp : (List KE)), (viewFin (1 : Nat) kp [(Option.some (Blk.mk (56 : Nat) [(D.v (Value.string s)), (D.v (Value.int IntKind.i64 n)), (D.v (Value.int IntKind.i64 m))] Bool.true)), (Option.some (Blk.mk (70 : Nat) [(D.v (Value.int IntKind.u8 (0 : Int))), (D.v (Value.string (ByteArray.mk (Array.mk ([] : List UInt8))))), (D.v (Value.bool Bool.false)), (D.v (Value.int IntKind.i64 a))] Bool.true)), (Option.some (Blk.mk (51 : Nat) [(D.v (Value.string w)), (D.v (Value.bool q))] Bool.true)), (Option.some (Blk.mk (70 : Nat) [(D.v (Value.int IntKind.u8 (0 : Int))), (D.v (Value.string (ByteArray.mk (Array.mk ([] : List UInt8))))), (D.v (Value.bool Bool.false)), (D.v (Value.int IntKind.i64 a))] Bool.true))] (D.tup [(D.agg [(D.v (Value.int IntKind.u8 (0 : Int))), (D.v (Value.string (ByteArray.mk (Array.mk ([] : List UInt8))))), (D.v (Value.bool Bool.false)), (D.v (Value.int IntKind.i64 a))]), (D.v (Value.int IntKind.i64 (6 : Int)))]) (d_res (endT s n w q a)) [(Option.some (d_bld (endT s n w q a) m))])))))) (True ∧ ((((0 : Nat) < (2 : Nat)) ∧ (IsStr (D.v (Value.string w)))) ∧ (((ByteArray.size w) ≤ (1000000 : Nat)) ∧ (True ∧ ((((1 : Nat) = (1 : Nat)) ∧ ((1 : Nat) ≤ (2 : Nat))) ∧ (((2 : Nat) ≤ (2 : Nat)) ∧ (True ∧ ((((1 : Nat) = (1 : Nat)) ∧ ((1 : Nat) ≤ (4 : Nat))) ∧ (True ∧ ((((2 : Nat) = (2 : Nat)) ∧ ((3 : Nat) ≤ (4 : Nat))) ∧ ((Bool.true = Bool.true) ∧ (((4 : Nat) ≤ (4 : Nat)) ∧ ((((4 : Nat) = (4 : Nat)) ∧ ((4 : Nat) ≤ (4 : Nat))) ∧ (True ∧ ((((4 : Nat) ≤ (4 : Nat)) ∧ True) ∧ (∃ (kp : (List KE)), (viewFin (1 : Nat) kp [(Option.some (Blk.mk (56 : Nat) [(D.v (Value.string s)), (D.v (Value.int IntKind.i64 n)), (D.v (Value.int IntKind.i64 m))] Bool.true)), (Option.some (Blk.mk (70 : Nat) [(D.v (Value.int IntKind.u8 (34 : Int))), (D.v (Value.string w)), (D.v (Value.bool q)), (D.v (Value.int IntKind.i64 a))] Bool.true)), (Option.some (Blk.mk (51 : Nat) [(D.v (Value.string w)), (D.v (Value.bool q))] Bool.true)), (Option.some (Blk.mk (70 : Nat) [(D.v (Value.int IntKind.u8 (34 : Int))), (D.v (Value.string w)), (D.v (Value.bool q)), (D.v (Value.int IntKind.i64 a))] Bool.true))] (D.tup [(D.agg [(D.v (Value.int IntKind.u8 (34 : Int))), (D.v (Value.string w)), (D.v (Value.bool q)), (D.v (Value.int IntKind.i64 a))]), (D.v (Value.int IntKind.i64 (0 : Int)))]) (d_res (endT s n w q a)) [(Option.some (d_bld (endT s n w q a) m))]))))))))))))))))))))))))))))))))))) ((([] : List Value) = ([] : List Value)) ∧ ((([] : List Value) = ([] : List Value)) ∧ ((([] : List Value) = ([] : List Value)) ∧ ((([] : List Value) = ([] : List Value)) ∧ ((([] : List Value) = ([] : List Value)) ∧ ((([] : List Value) = ([] : List Value)) ∧ ((([] : List Value) = ([] : List Value)) ∧ (True ∧ (True ∧ ((((0 : Nat) < (2 : Nat)) ∧ (IsStr (D.v (Value.string w)))) ∧ (((ByteArray.size w) ≤ (1000000 : Nat)) ∧ (True ∧ ((((1 : Nat) = (1 : Nat)) ∧ ((1 : Nat) ≤ (2 : Nat))) ∧ (((2 : Nat) ≤ (2 : Nat)) ∧ (True ∧ ((((1 : Nat) = (1 : Nat)) ∧ ((1 : Nat) ≤ (4 : Nat))) ∧ (True ∧ ((((2 : Nat) = (2 : Nat)) ∧ ((3 : Nat) ≤ (4 : Nat))) ∧ ((Bool.true = Bool.true) ∧ (((4 : Nat) ≤ (4 : Nat)) ∧ ((((4 : Nat) = (4 : Nat)) ∧ ((4 : Nat) ≤ (4 : Nat))) ∧ (True ∧ ((((4 : Nat) ≤ (4 : Nat)) ∧ True) ∧ (∃ (kp : (List KE)), (viewFin (1 : Nat) kp [(Option.some (Blk.mk (56 : Nat) [(D.v (Value.string s)), (D.v (Value.int IntKind.i64 n)), (D.v (Value.int IntKind.i64 m))] Bool.true)), (Option.some (Blk.mk (70 : Nat) [(D.v (Value.int IntKind.u8 (34 : Int))), (D.v (Value.string w)), (D.v (Value.bool q)), (D.v (Value.int IntKind.i64 a))] Bool.true)), (Option.some (Blk.mk (51 : Nat) [(D.v (Value.string w)), (D.v (Value.bool q))] Bool.true)), (Option.some (Blk.mk (70 : Nat) [(D.v (Value.int IntKind.u8 (34 : Int))), (D.v (Value.string w)), (D.v (Value.bool q)), (D.v (Value.int IntKind.i64 a))] Bool.true))] (D.tup [(D.agg [(D.v (Value.int IntKind.u8 (34 : Int))), (D.v (Value.string w)), (D.v (Value.bool q)), (D.v (Value.int IntKind.i64 a))]), (D.v (Value.int IntKind.i64 (0 : Int)))]) (d_res (endT s n w q a)) [(Option.some (d_bld (endT s n w q a) m))])))))))))))))))))))))))))))))))))))))))))) (by kernel_rfl) ?_
  simp only [true_and, and_true, and_self, IsInt_lit, IsBool_lit, IsStr_lit, IsSl_lit, cellN_lit, cellL_lit, Bool.not_eq_true', Bool.not_eq_false', Bool.not_true, Bool.not_false, Int.reduceLE, Int.reduceLT, Int.reduceNeg, Nat.le_refl, Int.le_refl, Nat.reduceLT, Nat.reduceLeDiff, Nat.reduceEqDiff, D.v.injEq, D.tup.injEq, D.agg.injEq, D.ro.injEq, List.cons.injEq, Value.int.injEq, Value.bool.injEq, pcond_true, pcond_false, NamelessL, Nameless, Nat.reduceMul, Nat.reduceAdd, Nat.zero_add, Int.toNat_natCast]
  obtain ⟨h1, h2⟩ := hpre
  rw [empty_dec, bt_i32, pl_int, show ((s.data.toList.getD 0 0).toNat : Int) = (bt s 0 : Int) from rfl]
  have b0 : bt s 0 < 256 := bt_lt s 0
  refine pcond_intro (fun h => ?_) (fun h => ?_)
  · simp only [decide_eq_true_eq] at h
    exact fin_tok (Y := ⟨0, ⟨#[]⟩, false, a, 4, s, n⟩) (by unfold endT; rw [decide_eq_true (show 120 < w.size by omega)]; rfl)
  · simp only [decide_eq_false_iff_not] at h
    have e1 : decide (120 < w.size) = false := decide_eq_false (by omega)
    refine pcond_intro (fun h => ?_) (fun h => ?_)
    · have h0 : s.size ≠ 0 := by simpa using h
      refine ⟨by omega, pcond_intro (fun h3 => ?_) (fun h3 => ⟨by omega, ⟨by omega, by omega⟩, pcond_intro (fun h4 => ?_) (fun h4 => ⟨h2, ?_⟩)⟩)⟩
      · have h3 : bt s 0 = 34 := by simp only [beq_iff_eq] at h3; omega
        exact fin_tok (Y := ⟨0, ⟨#[]⟩, false, a, 6, s, n⟩) (by unfold endT; rw [e1, decide_eq_true h0, decide_eq_true h3]; rfl)
      · exact fin_tok (Y := ⟨0, ⟨#[]⟩, false, a, 6, s, n⟩) (by unfold endT; rw [e1, decide_eq_true h0, h4, Bool.or_true]; rfl)
      · have h3 : bt s 0 ≠ 34 := by
          intro e; rw [e] at h3; simp at h3
        exact fin_tok (Y := ⟨34, w, q, a, 0, s, n⟩) (by unfold endT; rw [e1, decide_eq_false h3, h4, Bool.or_false, Bool.and_false]; rfl)
    · have h0 : s.size = 0 := by simpa using h
      refine ⟨h2, ?_⟩
      exact fin_tok (Y := ⟨34, w, q, a, 0, s, n⟩) (by unfold endT; rw [e1, decide_eq_false (show ¬ s.size ≠ 0 by omega), Bool.false_and]; rfl)
def entp_ended : EntP := fun off plain blk => match off, plain, blk with
  | 0, [.agg [.v (.int .u8 z), .v (.string t0), .v (.bool q0), .v (.int .i64 a)], .agg [.v (.string w), .v (.bool q)]], ⟨ty, [.v (.string s), .v (.int .i64 n), .v (.int .i64 m)], true⟩ =>
    some (d_res (endT s n w q a), d_bld (endT s n w q a) m, (ty = 56 ∧ z = 0 ∧ t0 = ⟨#[]⟩ ∧ q0 = false) ∧ s.size ≤ 1000000 ∧ w.size ≤ 1000000)
  | _, _, _ => none
theorem res_nl (X : Tok) : Nameless (d_res X) := by simp [d_res, d_tok, Nameless, NamelessL]
theorem bld_nl (X : Tok) (m : Int) : NamelessL (d_bld X m).cs := by simp [d_bld, Nameless, NamelessL]
theorem entp_ended_ok : EntPOk Try.prog 48 entp_ended := by
  intro off plain blk d blk' p h hp; unfold entp_ended at h; split at h
  · injection h with h
    simp only [Prod.mk.injEq] at h
    obtain ⟨rfl, rfl, rfl⟩ := h
    obtain ⟨⟨rfl, rfl, rfl, rfl⟩, hp⟩ := hp
    exact ⟨ended_call _ _ _ _ _ _ hp, by simp [NamelessL, Nameless], res_nl _, by simp [NamelessL, Nameless], bld_nl _ _⟩
  · cases h
def tl1 (s : ByteArray) : ByteArray := s.extract 1 s.size
theorem tl1_eq (s : ByteArray) : s.extract 1 s.size = tl1 s := rfl
theorem tl1_size (s : ByteArray) : (tl1 s).size = s.size - 1 := size_extract _ _ _ (Nat.le_refl _)
attribute [irreducible] tl1 tk rs nlc
attribute [local irreducible] spN
def quotT (s : ByteArray) (n : Int) (a : Int) : Tok :=
  bif decide ((rs qB (tl1 s)).size = 0) then ⟨0, ⟨#[]⟩, false, a, 6, rs qB (tl1 s), n + nlc (tk qB (tl1 s))⟩
  else bif !decide (bt (rs qB (tl1 s)) 0 = 34) then ⟨0, ⟨#[]⟩, false, a, 5, rs qB (tl1 s), n + nlc (tk qB (tl1 s))⟩
  else endT (tl1 (rs qB (tl1 s))) (n + nlc (tk qB (tl1 s))) (tk qB (tl1 s)) true a
theorem quoted_call (s : ByteArray) (n : Int) (m : Int) (a : Int) (hpre : RdOk s n ∧ s.size ≠ 0) : CallJ Try.prog 46 [.ptr 0 0, d_tok 0 ⟨#[]⟩ false a] ([some ⟨56, [.v (.string s), .v (.int .i64 n), .v (.int .i64 m)], true⟩]) (d_res (quotT s n a)) ([some (d_bld (quotT s n a) m)]) := by
  refine callJ_of_vck (k := 1) (call := (addPtr 42 (entp_take) (addPtr 48 (entp_ended) noCalls))) (lp := fun _ => none) (N := 10) T_ok mixed (addPtr_ok (entp_take_ok) (addPtr_ok (entp_ended_ok) noCalls_ok)) Try.func46 rfl (by decide) (by kernel_rfl) (by kernel_rfl) rfl (LpAllK.none _) ?_
  refine of_eq (B := letI z1 := (ByteArray.extract s (1 : Nat) (ByteArray.size s)); letI z3 := (rs (pB (37 : Nat)) z1); letI z18 := ByteArray.size z3; letI z13 := (ByteArray.extract z3 (1 : Nat) z18); letI z10 := (tk (pB (37 : Nat)) z1); letI z21 := (n + (((nlc z10) : Nat) : Int)); letI z0 := (endT z13 z21 z10 Bool.true a); letI z17 := (D.v (Value.int IntKind.u8 (0 : Int))); letI z7 := (ByteArray.mk (Array.mk ([] : List UInt8))); letI z28 := (D.v (Value.string z7)); letI z24 := (D.v (Value.bool Bool.false)); letI z22 := (D.v (Value.int IntKind.i64 a)); letI z2 := (Option.some (Blk.mk (70 : Nat) [z17, z28, z24, z22] Bool.true)); letI z29 := (D.v (Value.string z3)); letI z19 := (D.v (Value.int IntKind.i64 m)); letI z4 := (Option.some (Blk.mk (56 : Nat) [z29, (D.v (Value.int IntKind.i64 z21)), z19] Bool.true)); letI z5 := ((4 : Nat) ≤ (4 : Nat)); letI z6 := (D.agg [z17, z28, z24, z22]); letI z27 := ((0 : Nat) < (3 : Nat)); letI z8 := (z27 ∧ (IsStr z29)); letI z9 := (Option.some (d_bld (quotT s n a) m)); letI z11 := (((4 : Nat) = (4 : Nat)) ∧ z5); letI z12 := (((1 : Nat) = (1 : Nat)) ∧ ((1 : Nat) ≤ (3 : Nat))); letI z14 := (D.v (Value.int IntKind.i64 (Tok.a z0))); letI z15 := (d_res (quotT s n a)); letI z16 := (D.v (Value.int IntKind.u8 (Tok.k z0))); letI z20 := (D.v (Value.string (Tok.t z0))); letI z23 := (D.v (Value.bool (Tok.q z0))); letI z25 := ((0 : Int) ≤ (1 : Int)); letI z26 := ((56 : Nat) = (56 : Nat)); letI z30 := ((z18 : Nat) : Int); (True ∧ (True ∧ (True ∧ (True ∧ (True ∧ (True ∧ (True ∧ ((z27 ∧ (IsStr (D.v (Value.string s)))) ∧ (((z25 ∧ ((1 : Int) ≤ (((ByteArray.size s) : Nat) : Int))) ∧ (True ∧ True)) ∧ (True ∧ (True ∧ (z12 ∧ (True ∧ ((z26 ∧ ((RdOk z1 n) ∧ (PK (37 : Nat)))) ∧ (True ∧ (True ∧ (True ∧ (True ∧ (z8 ∧ (True ∧ (pcond ((ByteArray.toList z3) == ([] : List UInt8)) (z5 ∧ (z11 ∧ (True ∧ ((z5 ∧ True) ∧ (∃ (kp : (List KE)), (viewFin (1 : Nat) kp [z4, z2, z2] (D.tup [z6, (D.v (Value.int IntKind.i64 (6 : Int)))]) z15 [z9])))))) (True ∧ (True ∧ (True ∧ (z8 ∧ ((((0 : Int) ≤ (0 : Int)) ∧ ((0 : Int) < z30)) ∧ (True ∧ (pcond ((((UInt8.toNat (List.getD (Array.toList (ByteArray.data z3)) (0 : Nat) (0 : UInt8))) : Nat) : Int) != (34 : Int)) (z5 ∧ (z11 ∧ (True ∧ ((z5 ∧ True) ∧ (∃ (kp : (List KE)), (viewFin (1 : Nat) kp [z4, z2, z2] (D.tup [z6, (D.v (Value.int IntKind.i64 (5 : Int)))]) z15 [z9])))))) (True ∧ (True ∧ (True ∧ (True ∧ (z8 ∧ (((z25 ∧ ((1 : Int) ≤ z30)) ∧ (True ∧ True)) ∧ (True ∧ (True ∧ (z12 ∧ (True ∧ (z5 ∧ (True ∧ (True ∧ (((z26 ∧ (((0 : Int) = (0 : Int)) ∧ ((z7 = z7) ∧ (Bool.false = Bool.false)))) ∧ (((ByteArray.size z13) ≤ (1000000 : Nat)) ∧ ((ByteArray.size z10) ≤ (1000000 : Nat)))) ∧ (True ∧ (True ∧ (z11 ∧ (True ∧ ((z5 ∧ True) ∧ (∃ (kp : (List KE)), (viewFin (1 : Nat) kp [(Option.some (Blk.mk (56 : Nat) [(D.v (Value.string (Tok.s z0))), (D.v (Value.int IntKind.i64 (Tok.n z0))), z19] Bool.true)), z2, (Option.some (Blk.mk (70 : Nat) [z16, z20, z23, z14] Bool.true))] (D.tup [(D.agg [z16, z20, z23, z14]), (D.v (Value.int IntKind.i64 (Tok.e z0)))]) z15 [z9])))))))))))))))))))))))))))))))))))))))))))))))))) (by kernel_rfl) ?_
  simp only [true_and, and_true, and_self, IsInt_lit, IsBool_lit, IsStr_lit, IsSl_lit, cellN_lit, cellL_lit, Bool.not_eq_true', Bool.not_eq_false', Bool.not_true, Bool.not_false, Int.reduceLE, Int.reduceLT, Int.reduceNeg, Nat.le_refl, Int.le_refl, Nat.reduceLT, Nat.reduceLeDiff, Nat.reduceEqDiff, D.v.injEq, D.tup.injEq, D.agg.injEq, D.ro.injEq, List.cons.injEq, Value.int.injEq, Value.bool.injEq, pcond_true, pcond_false, NamelessL, Nameless, Nat.reduceMul, Nat.reduceAdd, Nat.zero_add, Int.toNat_natCast]
  obtain ⟨h1, h2⟩ := hpre
  rw [show pB 37 = qB from rfl, tl1_eq, tl1_eq, empty_dec]
  have g0 := tl1_size s
  have g1 : RdOk (tl1 s) n := ⟨h1.1, by have := h1.2; omega⟩
  have g2 := g1.take qB
  have g3 := rs_size qB (tl1 s)
  have g4 := tk_size qB (tl1 s)
  have g5 := spN_le qB (tl1 s)
  have g6 : n + s.size ≤ 1000000 := h1.2
  have g7 : 0 ≤ n := h1.1
  refine ⟨by omega, ⟨g1, .inr (.inr (.inl rfl))⟩, pcond_intro (fun h => ?_) (fun h => ⟨?_, pcond_intro (fun h3 => ?_) (fun h3 => ⟨?_, ⟨?_, ?_⟩, ?_⟩)⟩)⟩
  · exact fin_tok (Y := ⟨0, ⟨#[]⟩, false, a, 6, rs qB (tl1 s), n + nlc (tk qB (tl1 s))⟩) (by unfold quotT; rw [h, cond_true])
  · simp only [decide_eq_false_iff_not] at h; omega
  · have h3 : ¬ bt (rs qB (tl1 s)) 0 = 34 := by
      intro e; unfold bt at e; rw [e] at h3; simp at h3
    exact fin_tok (Y := ⟨0, ⟨#[]⟩, false, a, 5, rs qB (tl1 s), n + nlc (tk qB (tl1 s))⟩) (by unfold quotT; rw [h, decide_eq_false h3, cond_false, Bool.not_false, cond_true])
  · simp only [decide_eq_false_iff_not] at h; omega
  · have := tl1_size (rs qB (tl1 s))
    omega
  · omega
  · have h3 : bt (rs qB (tl1 s)) 0 = 34 := by
      have : (((rs qB (tl1 s)).data.toList.getD 0 0).toNat : Int) = 34 := by simpa using h3
      unfold bt; omega
    exact fin_tok (Y := endT (tl1 (rs qB (tl1 s))) (n + nlc (tk qB (tl1 s))) (tk qB (tl1 s)) true a) (by unfold quotT; rw [h, decide_eq_true h3, cond_false, Bool.not_true, cond_false])
def entp_quoted : EntP := fun off plain blk => match off, plain, blk with
  | 0, [.agg [.v (.int .u8 z), .v (.string t0), .v (.bool q0), .v (.int .i64 a)]], ⟨ty, [.v (.string s), .v (.int .i64 n), .v (.int .i64 m)], true⟩ =>
    some (d_res (quotT s n a), d_bld (quotT s n a) m, (ty = 56 ∧ z = 0 ∧ t0 = ⟨#[]⟩ ∧ q0 = false) ∧ RdOk s n ∧ s.size ≠ 0)
  | _, _, _ => none
theorem entp_quoted_ok : EntPOk Try.prog 46 entp_quoted := by
  intro off plain blk d blk' p h hp; unfold entp_quoted at h; split at h
  · injection h with h
    simp only [Prod.mk.injEq] at h
    obtain ⟨rfl, rfl, rfl⟩ := h
    obtain ⟨⟨rfl, rfl, rfl, rfl⟩, hp⟩ := hp
    exact ⟨quoted_call _ _ _ _ hp, by simp [NamelessL, Nameless], res_nl _, by simp [NamelessL, Nameless], bld_nl _ _⟩
  · cases h
end Go.Proofs.Ytahiigfpikohgaa
end
section
namespace Go.VD
set_option linter.unusedVariables false
set_option linter.unusedSimpArgs false
theorem DWK.scopeJump {k : Nat} {P : Program} {nt : Nat} {α : Type} {l : Nat} (J : α → Prop) (I : α → Env) (HI : α → Heap) (μ : α → Nat) {c rest : Code} {Q : Exit → Env → Heap → Prop} {env : Env} {H : Heap} (hf : findLabel c l = some rest)
    (first : DWK k P nt c (jumpQ l (fun env' H' => ∃ y, J y ∧ ViewK k nt env' H' (I y) (HI y)) Q) env H)
    (pass : ∀ x, J x → DWK k P nt rest (jumpQ l (fun env' H' => ∃ y, μ y < μ x ∧ J y ∧ ViewK k nt env' H' (I y) (HI y)) Q) (I x) (HI x)) : DWK k P nt (.scope c) Q env H := by
  intro hk ρ S w a hi
  refine wp_scope_ghost l (fun n a' w' => ∃ x ρ' S', μ x = n ∧ J x ∧ k ≤ (HI x).length ∧ Inv nt ρ' S' w' (HI x) (I x) a' ∧ (ctx ρ S w H).lek k (ctx ρ' S' w' (HI x))) hf ?_ ?_
  · refine wp_mono (first hk ρ S w a hi) fun e a' w' ⟨env', H', ρ', S', h1, h2, h3, h4⟩ => ?_
    cases e with
    | goto l' =>
      obtain ⟨rfl, y, hJ, v⟩ := h1
      obtain ⟨hk2, v⟩ := v h2
      obtain ⟨ρ3, S3, hi3, hle3⟩ := v ρ' S' w' a' h3
      exact ⟨rfl, μ y, y, ρ3, S3, rfl, hJ, hk2, hi3, h4.trans hle3⟩
    | _ => exact ⟨env', H', ρ', S', h1, h2, h3, h4⟩
  · rintro n a' w' ⟨x, ρ', S', rfl, hx, hkx, hi', hle⟩
    refine wp_mono (pass x hx hkx ρ' S' w' a' hi') fun e a'' w'' ⟨env', H', ρ'', S'', h1, h2, h3, h4⟩ => ?_
    cases e with
    | goto l' =>
      obtain ⟨rfl, y, hy, hJ, v⟩ := h1
      obtain ⟨hk2, v⟩ := v h2
      obtain ⟨ρ3, S3, hi3, hle3⟩ := v ρ'' S'' w'' a'' h3
      exact ⟨rfl, μ y, hy, y, ρ3, S3, rfl, hJ, hk2, hi3, (hle.trans h4).trans hle3⟩
    | _ => exact ⟨env', H', ρ'', S'', h1, h2, h3, hle.trans h4⟩
section
variable {P : Program} {T : Tbl} (hT : TblOk P T) {nt N : Nat} {call : CallO} {lp : Nat → Option LoopO}
include hT
theorem callJ_of_dwk {k : Nat} {f : FuncId} {fn : Func} {c : Code} {ds : List D} {H H' : Heap} {d : D} (hf : P.funcs[f]? = some fn) (hb : fn.body = some c)
    (hname : (fn.name == "runtime.NumGoroutine") = false) (hlen : decide (ds.length ≤ fn.ntmps) = true) (hk : H.length = k)
    (hw : DWK k P fn.ntmps c (retQ T fn.results.toList fun d1 H1 => FinK k H1 d1 d H') (envOf 0 ds) H) : CallJ P f ds H d H' := by
  subst hk
  refine callJ_of_dw (H := H) hT hf hb hname (by simpa using hlen) ?_
  intro ρ S w a hi
  refine wp_mono (hw (Nat.le_refl _) ρ S w a hi) fun e a' w' ⟨env', H1, ρ1, S1, g1, g2, g3, g4⟩ => ?_
  have hle : (ctx ρ S w H).le (ctx ρ1 S1 w' H1) := ⟨g2, g4.ρ, g4.m.S, g4.m.keep, g4.m.new, g4.m.fix, g4.m.heap, g4.m.size, g4.m.os, g4.m.tape, g4.m.output⟩
  refine ⟨env', H1, ρ1, S1, ?_, g3, hle⟩
  have fin : ∀ d1, FinK H.length H1 d1 d H' → Fin ds H d1 H1 d H' := by
    rintro d1 ⟨kp, hn, hh, hv⟩ ρ0 S0 w0 ρ S w u hS0 hle hS hr
    simp only [Bool.and_eq_true] at hn
    obtain ⟨hf, hn⟩ := hn
    have hl2 := (viewHeapK_get _ _ hh).1
    have hlk := viewK_lek hS hf hh
    refine ⟨reρK H.length kp ρ, reS (kO kp) ρ H1 S, viewK_st hS hf hn hh, ?_, viewOkK_rd hS hf hl2 hv hr⟩
    have ht := hle.lem.trans hlk.m
    exact ⟨by show H.length ≤ H'.length; rw [hl2]; exact firstK_len hf, fun b hb => (hlk.ρ b hb).trans (hle.ρ b hb), ht.S, ht.keep, ht.new, ht.fix, ht.heap, ht.size, ht.os, ht.tape, ht.output⟩
  cases e <;> simp only [retQ] at g1 ⊢
  all_goals first
    | exact g1.elim
    | (split at g1
       · exact ⟨g1.1, fin _ g1.2⟩
       · exact g1.elim)
end
def RdTo (d0 d : D) : Prop := ∀ (E : Ctx) (u : Value), Rd E d0 u → Rd E d u
theorem RdTo.refl (d : D) : RdTo d d := fun _ _ h => h
theorem RdTo.nil : RdTo (.v (.slice none 0 0)) (.ro 0 []) := fun E u h => by
  simp only [Rd] at h; subst h
  simp only [Rd]
  exact ⟨by simp [NamelessL], none, 0, rfl, Nat.le_refl _, Nat.zero_le _, fun h => absurd h (Nat.lt_irrefl 0)⟩
theorem RdTo.tup3 {a b c a' b' c' : D} (h1 : RdTo a a') (h2 : RdTo b b') (h3 : RdTo c c') : RdTo (.tup [a, b, c]) (.tup [a', b', c']) := fun E u h => by
  simp only [Rd] at h ⊢
  obtain ⟨us, rfl, h⟩ := h
  simp only [RdT] at h ⊢
  obtain ⟨u1, r1, e1, g1, u2, r2, e2, g2, u3, r3, e3, g3, e4⟩ := h
  exact ⟨us, rfl, u1, r1, e1, h1 E u1 g1, u2, r2, e2, h2 E u2 g2, u3, r3, e3, h3 E u3 g3, e4⟩
theorem RdTo.agg4 {a b c e a' b' c' e' : D} (h1 : RdTo a a') (h2 : RdTo b b') (h3 : RdTo c c') (h4 : RdTo e e') : RdTo (.agg [a, b, c, e]) (.agg [a', b', c', e']) := fun E u h => by
  simp only [Rd] at h ⊢
  obtain ⟨us, rfl, h⟩ := h
  simp only [RdL] at h ⊢
  obtain ⟨u1, r1, e1, o1, g1, u2, r2, e2, o2, g2, u3, r3, e3, o3, g3, u4, r4, e4, o4, g4, e5⟩ := h
  exact ⟨us, rfl, u1, r1, e1, o1, h1 E u1 g1, u2, r2, e2, o2, h2 E u2 g2, u3, r3, e3, o3, h3 E u3 g3, u4, r4, e4, o4, h4 E u4 g4, e5⟩
def FinN (k : Nat) (H1 : Heap) (d1 d : D) (H' : Heap) : Prop := ∃ (kp : List KE) (d0 : D), viewFin k kp H1 d1 d0 H' ∧ RdTo d0 d
theorem callJ_of_vckN {P : Program} {T : Tbl} (hT : TblOk P T) {N : Nat} {call : CallO} {lp : Nat → Option LoopO} {k : Nat} (hm : P.follows .mixedOrders = true) (hc : CallOK P call) {f : FuncId} {fn : Func} {c : Code} {ds : List D} {H H' : Heap} {d : D} (hf : P.funcs[f]? = some fn) (hb : fn.body = some c)
    (hname : (fn.name == "runtime.NumGoroutine") = false) (hok : codeOk fn.ntmps c = true) (hlen : decide (ds.length ≤ fn.ntmps) = true) (hk : H.length = k) (hl : LpAllK k P fn.ntmps lp (loopsOf c))
    (h : vcx P call lp T N c (retQ T fn.results.toList fun d1 H1 => FinN k H1 d1 d H') (envOf 0 ds) H) : CallJ P f ds H d H' := by
  subst hk
  have hw : DWK H.length P fn.ntmps c (retQ T fn.results.toList fun d1 H1 => FinN H.length H1 d1 d H') (envOf 0 ds) H := vck_sound hT hm hc c _ _ _ hok hl h
  refine callJ_of_dw (H := H) hT hf hb hname (by simpa using hlen) ?_
  intro ρ S w a hi
  refine wp_mono (hw (Nat.le_refl _) ρ S w a hi) fun e a' w' ⟨env', H1, ρ1, S1, g1, g2, g3, g4⟩ => ?_
  have hle : (ctx ρ S w H).le (ctx ρ1 S1 w' H1) := ⟨g2, g4.ρ, g4.m.S, g4.m.keep, g4.m.new, g4.m.fix, g4.m.heap, g4.m.size, g4.m.os, g4.m.tape, g4.m.output⟩
  refine ⟨env', H1, ρ1, S1, ?_, g3, hle⟩
  have fin : ∀ d1, FinN H.length H1 d1 d H' → Fin ds H d1 H1 d H' := by
    rintro d1 ⟨kp, d0, ⟨hn, hh, hv⟩, ht⟩ ρ0 S0 w0 ρ S w u hS0 hle hS hr
    simp only [Bool.and_eq_true] at hn
    obtain ⟨hf, hn⟩ := hn
    have hl2 := (viewHeapK_get _ _ hh).1
    have hlk := viewK_lek hS hf hh
    refine ⟨reρK H.length kp ρ, reS (kO kp) ρ H1 S, viewK_st hS hf hn hh, ?_, ht _ _ (viewOkK_rd hS hf hl2 hv hr)⟩
    have ht := hle.lem.trans hlk.m
    exact ⟨by show H.length ≤ H'.length; rw [hl2]; exact firstK_len hf, fun b hb => (hlk.ρ b hb).trans (hle.ρ b hb), ht.S, ht.keep, ht.new, ht.fix, ht.heap, ht.size, ht.os, ht.tape, ht.output⟩
  cases e <;> simp only [retQ] at g1 ⊢
  all_goals first
    | exact g1.elim
    | (split at g1
       · exact ⟨g1.1, fin _ g1.2⟩
       · exact g1.elim)
def jumpQK {α : Type} (l k : Nat) (J : α → Prop) (I : α → Env) (HI : α → Heap) (μ : α → Nat) (x : α) (Q : Exit → Env → Heap → Prop) : Exit → Env → Heap → Prop
  | .goto l', env', H' => l' = l ∧ ∃ (y : α) (kp : List KE), μ y < μ x ∧ J y ∧ viewAllK k kp (selEnv (I y) env') H' (I y) (HI y)
  | e, env', H' => Q e env' H'
def normQ (R : Env → Heap → Prop) : Exit → Env → Heap → Prop
  | .normal, env, H => R env H
  | _, _, _ => False
theorem callJ_of_jump {P : Program} {T : Tbl} (hT : TblOk P T) {N : Nat} {call : CallO} {lp : Nat → Option LoopO} (hm : P.follows .mixedOrders = true) (hc : CallOK P call) {k l : Nat} {α : Type} {J : α → Prop} {I : α → Env} {HI : α → Heap} (μ : α → Nat) {x0 : α} {kp : List KE}
    {f : FuncId} {fn : Func} {a c rest : Code} {ds : List D} {H H' : Heap} {d : D} (hf : P.funcs[f]? = some fn) (hb : fn.body = some (.seq a (.scope c)))
    (hname : (fn.name == "runtime.NumGoroutine") = false) (hlen : decide (ds.length ≤ fn.ntmps) = true) (hk : H.length = k)
    (hoka : codeOk fn.ntmps a = true) (hokr : codeOk fn.ntmps rest = true) (hla : LpAllK k P fn.ntmps lp (loopsOf a)) (hlr : LpAllK k P fn.ntmps lp (loopsOf rest)) (hcs : c = .seq (.label l) rest)
    (h0 : vcx P call lp T N a (normQ fun env H => J x0 ∧ viewAllK k kp env H (I x0) (HI x0)) (envOf 0 ds) H)
    (pass : ∀ x, J x → vcx P call lp T N rest (jumpQK l k J I HI μ x (retQ T fn.results.toList fun d1 H1 => FinK k H1 d1 d H')) (I x) (HI x)) : CallJ P f ds H d H' := by
  have ps : ∀ x, J x → DWK k P fn.ntmps rest (jumpQ l (fun env' H' => ∃ y, μ y < μ x ∧ J y ∧ ViewK k fn.ntmps env' H' (I y) (HI y)) (retQ T fn.results.toList fun d1 H1 => FinK k H1 d1 d H')) (I x) (HI x) := fun x hx =>
    (vck_sound hT hm hc rest _ _ _ hokr hlr (pass x hx)).mono fun e env' H' h => by
      cases e with
      | goto l' =>
        obtain ⟨h1, y, kp, h2, h3, h4⟩ := h
        exact ⟨h1, y, h2, h3, (ViewK.has (has_sel _)).trans (viewK_of h4)⟩
      | _ => exact h
  refine callJ_of_dwk hT hf hb hname hlen hk ?_
  intro hk ρ S w ac hi
  refine wp_seq (wp_mono (vck_sound hT hm hc a _ _ _ hoka hla h0 hk ρ S w ac hi) fun e a' w' ⟨env', H1, ρ', S', h1, h2, h3, h4⟩ => ?_)
  cases e with
  | normal =>
    obtain ⟨hj, hv⟩ := h1
    have key : DWK k P fn.ntmps (.scope c) (retQ T fn.results.toList fun d1 H1 => FinK k H1 d1 d H') (I x0) (HI x0) := by
      subst hcs
      refine DWK.scopeJump (l := l) (rest := .seq .skip rest) J I HI μ (by simp [findLabel]) ?_ ?_
      rotate_left
      · intro x hx hk ρ S w ac hi
        refine wp_seq (wp_mono ((vcg_sound hT hm .skip (normQ fun env H => env = I x ∧ H = HI x) (I x) (HI x) rfl ⟨rfl, rfl⟩).dwk hk ρ S w ac hi) fun e a' w' ⟨env', H1, ρ', S', h1, h2, h3, h4⟩ => ?_)
        cases e with
        | normal =>
          obtain ⟨rfl, rfl⟩ := h1
          exact wp_mono (ps x hx h2 ρ' S' w' a' h3) fun e a'' w'' ⟨env'', H'', ρ'', S'', g1, g2, g3, g4⟩ => ⟨env'', H'', ρ'', S'', g1, g2, g3, h4.trans g4⟩
        | _ => exact h1.elim
      intro hk ρ S w ac hi
      refine wp_seq (wp_mono ((vcg_sound hT hm (.label l) (normQ fun env H => env = I x0 ∧ H = HI x0) (I x0) (HI x0) rfl ⟨rfl, rfl⟩).dwk hk ρ S w ac hi) fun e a' w' ⟨env', H1, ρ', S', h1, h2, h3, h4⟩ => ?_)
      cases e with
      | normal =>
        obtain ⟨rfl, rfl⟩ := h1
        refine wp_mono (ps x0 hj h2 ρ' S' w' a' h3) fun e a'' w'' ⟨env'', H'', ρ'', S'', g1, g2, g3, g4⟩ => ⟨env'', H'', ρ'', S'', ?_, g2, g3, h4.trans g4⟩
        cases e with
        | goto l' =>
          obtain ⟨h1, y, _, h3, h4⟩ := g1
          exact ⟨h1, y, h3, h4⟩
        | _ => exact g1
      | _ => exact h1.elim
    refine wp_mono (DWK.view (viewK_of hv) key h2 ρ' S' w' a' h3) fun e a'' w'' ⟨env'', H'', ρ'', S'', g1, g2, g3, g4⟩ => ⟨env'', H'', ρ'', S'', g1, g2, g3, h4.trans g4⟩
  | _ => exact h1.elim
def scA : Code → Code
  | .seq a _ => a
  | _ => .skip
def scB : Code → Code
  | .seq _ b => b
  | _ => .skip
def scC : Code → Code
  | .scope c => c
  | _ => .skip
end Go.VD
end
