/- The program's words: runes that are one byte, digits, spans. -/
import Derived.Test.YthnhfkpihbjddaaYb
import Derived.Test.YthnhfkpihbjddaaEh
namespace Go.Proofs.Ythnhfkpihbjddaa
open Go.VD
set_option linter.unusedVariables false
set_option linter.unusedSimpArgs false
set_option maxRecDepth 100000

/-- a string's byte -/
def bt (s : ByteArray) (i : Nat) : Nat := (s.data.toList.getD i 0).toNat
theorem get_bt (s : ByteArray) (i : Nat) : (s.get! i).toNat = bt s i := by
  have : s.get! i = s.data.toList.getD i 0 := by
    obtain ⟨⟨l⟩⟩ := s
    simp only [ByteArray.get!, List.getD_eq_getElem?_getD]
    rw [getElem!_def]
    simp
    rfl
  rw [this]; rfl
theorem dec_ascii {s : ByteArray} {i : Nat} (h : bt s i < 128) : Utf8.decode s i = (bt s i, 1) := by
  unfold Utf8.decode
  simp only [Nat.add_zero, get_bt]
  rw [if_pos h]
theorem dec_high {s : ByteArray} {i : Nat} (h : 128 ≤ bt s i) (h2 : bt s i < 256) : 128 ≤ (Utf8.decode s i).1 ∧ (Utf8.decode s i).1 < 2147483648 := by
  unfold Utf8.decode
  simp only [Nat.add_zero, get_bt, Utf8.runeError]
  rw [if_neg (by omega)]
  split
  · split <;> (simp only; omega)
  · split
    · split
      · rename_i hc
        simp only [Bool.and_eq_true, decide_eq_true_eq] at hc
        simp only; omega
      · simp only; omega
    · split
      · split
        · rename_i hc
          simp only [Bool.and_eq_true, decide_eq_true_eq] at hc
          simp only; omega
        · simp only; omega
      · simp only; omega
theorem bt_lt (s : ByteArray) (i : Nat) : bt s i < 256 := (s.data.toList.getD i 0).toNat_lt
theorem isDigit_pure (c : Int) : PureJ Try.prog 81 [.v (.int .i32 c)] (.v (.bool (decide (48 ≤ c) && decide (c ≤ 57)))) := by
  refine pureJ_of_vcx (call := noCalls) (lp := fun _ => none) (N := 10) T_ok mixed noCalls_ok Try.func81 rfl (by decide) (by kernel_rfl) (by kernel_rfl) (LpAll.none _) (by first | trivial | (simp only [NamelessL, Nameless, and_self, and_true, true_and]; done) | (simp [NamelessL, Nameless, u32s_nameless, namelessL_ints]; done)) (by first | trivial | (simp only [NamelessL, Nameless, and_self, and_true, true_and]; done) | (simp [NamelessL, Nameless, u32s_nameless, namelessL_ints]; done)) ?_
  refine of_eq (B := (True ∧ (True ∧ (True ∧ (True ∧ (pcond (Decidable.decide ((48 : Int) ≤ c)) (True ∧ (True ∧ (True ∧ (True ∧ (True ∧ (True ∧ ((D.v (Value.bool (Decidable.decide (c ≤ (57 : Int))))) = (D.v (Value.bool ((Decidable.decide ((48 : Int) ≤ c)) && (Decidable.decide (c ≤ (57 : Int))))))))))))) (True ∧ (True ∧ (True ∧ (True ∧ ((D.v (Value.bool Bool.false)) = (D.v (Value.bool ((Decidable.decide ((48 : Int) ≤ c)) && (Decidable.decide (c ≤ (57 : Int))))))))))))))))) (by kernel_rfl) ?_
  simp only [true_and, and_true, and_self, IsInt_lit, IsBool_lit, IsStr_lit, Bool.not_eq_true', Bool.not_eq_false', Bool.not_true, Bool.not_false, Int.reduceLE, Int.reduceLT, Int.reduceNeg, Nat.le_refl, Int.le_refl, Nat.reduceLT, Nat.reduceLeDiff, Nat.reduceEqDiff, D.v.injEq, D.tup.injEq, D.agg.injEq, D.ro.injEq, List.cons.injEq, Value.int.injEq, Value.bool.injEq, pcond_true, pcond_false, NamelessL, Nameless, Nat.reduceMul, Nat.reduceAdd, Nat.zero_add, Int.toNat_natCast]
  refine pcond_intro (fun h => ?_) (fun h => ?_)
  · simp only [decide_eq_true_eq] at h; simp [h]
  · simp only [decide_eq_false_iff_not] at h; simp [h]
def ent_isDigit : Ent := fun ds => match ds with
  | [.v (.int .i32 c)] => some (.v (.bool (decide (48 ≤ c) && decide (c ≤ 57))), True)
  | _ => none
theorem ent_isDigit_ok : EntOk Try.prog 81 ent_isDigit := by
  intro ds d c h hc; unfold ent_isDigit at h; split at h
  · obtain ⟨rfl, rfl⟩ := pair_inj h; exact isDigit_pure _
  · cases h
theorem dec_pred {p : Nat → Bool} (hp : ∀ n, p n = true → n < 128) (s : ByteArray) (x : Nat) : p (Utf8.decode s x).1 = p (bt s x) ∧ (p (bt s x) = true → (Utf8.decode s x).2 = 1) := by
  by_cases h : bt s x < 128
  · rw [dec_ascii h]; exact ⟨rfl, fun _ => rfl⟩
  · have hh := (dec_high (show 128 ≤ bt s x by omega) (bt_lt s x)).1
    have e1 : p (Utf8.decode s x).1 = false := by
      cases hq : p (Utf8.decode s x).1 with
      | false => rfl
      | true => have := hp _ hq; omega
    have e2 : p (bt s x) = false := by
      cases hq : p (bt s x) with
      | false => rfl
      | true => have := hp _ hq; omega
    rw [e1, e2]
    exact ⟨rfl, fun h => by cases h⟩
def digB (n : Nat) : Bool := decide (48 ≤ n) && decide (n ≤ 57)
theorem digB_int (n : Nat) : (decide (48 ≤ (n : Int)) && decide ((n : Int) ≤ 57)) = digB n := by
  unfold digB
  rw [Bool.eq_iff_iff]; simp only [Bool.and_eq_true, decide_eq_true_eq]; omega
theorem digB_lt (n : Nat) (h : digB n = true) : n < 128 := by
  unfold digB at h; simp only [Bool.and_eq_true, decide_eq_true_eq] at h; omega
def lp_spanDLoop (s : ByteArray) : LoopO := loopRule2 (α := Nat) (β := Unit) (γ := Nat) [some 0] (fun n => n ≤ s.size ∧ ∀ i, i < n → digB (bt s i) = true) (fun n => [(0, .v (.string s)), (1, .fn 81 0 []), (8, .ptr 0 0)]) (fun n => [some ⟨itTy, [.v (.string s), .v (.int .i64 (n : Int))], true⟩]) (0) (fun _ => ∀ i, i < s.size → digB (bt s i) = true) (fun _ => (.exit 0, [(0, .v (.string s))], [])) (fun n => n < s.size ∧ digB (bt s n) = false ∧ ∀ i, i < n → digB (bt s i) = true) (fun n => (.ret, [(4, .v (.int .i64 (n : Int)))], []))
theorem spanDLoop_rule (s : ByteArray) (hpre : s.size ≤ 9223372036854775807) : LRuleP Try.prog Try.f80.ntmps (loopAt ((Try.f80.body).getD .skip) 2) (lp_spanDLoop s) := by
  refine lrule_of2 (α := Nat) (β := Unit) (γ := Nat) (call := (addPure 81 ent_isDigit noCalls)) (lp := fun _ => none) (N := 10) T_ok mixed (addPure_ok ent_isDigit_ok noCalls_ok) (fun n => s.size - n) (by kernel_rfl) (LpAllP.none _) ?_
  intro x hJ
  refine of_eq (B := (pcond (Decidable.decide ((Int.toNat ((x : Nat) : Int)) < (ByteArray.size s))) (True ∧ (True ∧ (True ∧ (True ∧ (True ∧ (True ∧ (True ∧ (True ∧ (True ∧ (pcond (!((Decidable.decide ((48 : Int) ≤ (((Prod.fst (Utf8.decode s (Int.toNat ((x : Nat) : Int)))) : Nat) : Int))) && (Decidable.decide ((((Prod.fst (Utf8.decode s (Int.toNat ((x : Nat) : Int)))) : Nat) : Int) ≤ (57 : Int))))) (True ∧ (True ∧ ((∃ (r : Unit), (∃ (kp : (List (Option Nat))), ((∀ (i : Nat), ((i < (ByteArray.size s)) → ((digB (bt s i)) = Bool.true))) ∧ ((Exit.ret = (Exit.exit (0 : Nat))) ∧ (viewAll kp [(Prod.mk (0 : Nat) (D.v (Value.string s)))] [(Option.some (Blk.mk (1000000007 : Nat) [(D.v (Value.string s)), (D.v (Value.int IntKind.i64 ((((Int.toNat ((x : Nat) : Int)) + (Prod.snd (Utf8.decode s (Int.toNat ((x : Nat) : Int))))) : Nat) : Int)))] Bool.true))] (Prod.fst (Prod.snd ((fun (x_1 : Unit) => (Prod.mk (Exit.exit (0 : Nat)) (Prod.mk [(Prod.mk (0 : Nat) (D.v (Value.string s)))] ([] : List (Option Blk))))) r))) (Prod.snd (Prod.snd ((fun (x_1 : Unit) => (Prod.mk (Exit.exit (0 : Nat)) (Prod.mk [(Prod.mk (0 : Nat) (D.v (Value.string s)))] ([] : List (Option Blk))))) r)))))))) ∨ (∃ (r : Nat), (∃ (kp : (List (Option Nat))), (((r < (ByteArray.size s)) ∧ (((digB (bt s r)) = Bool.false) ∧ (∀ (i : Nat), ((i < r) → ((digB (bt s i)) = Bool.true))))) ∧ ((Exit.ret = Exit.ret) ∧ (viewAll kp [(Prod.mk (4 : Nat) (D.v (Value.int IntKind.i64 ((x : Nat) : Int))))] [(Option.some (Blk.mk (1000000007 : Nat) [(D.v (Value.string s)), (D.v (Value.int IntKind.i64 ((((Int.toNat ((x : Nat) : Int)) + (Prod.snd (Utf8.decode s (Int.toNat ((x : Nat) : Int))))) : Nat) : Int)))] Bool.true))] (Prod.fst (Prod.snd ((fun (n : Nat) => (Prod.mk Exit.ret (Prod.mk [(Prod.mk (4 : Nat) (D.v (Value.int IntKind.i64 ((n : Nat) : Int))))] ([] : List (Option Blk))))) r))) (Prod.snd (Prod.snd ((fun (n : Nat) => (Prod.mk Exit.ret (Prod.mk [(Prod.mk (4 : Nat) (D.v (Value.int IntKind.i64 ((n : Nat) : Int))))] ([] : List (Option Blk))))) r))))))))))) (∃ (y : Nat), (∃ (kp : (List (Option Nat))), ((((ByteArray.size s) - y) < ((ByteArray.size s) - x)) ∧ (((y ≤ (ByteArray.size s)) ∧ (∀ (i : Nat), ((i < y) → ((digB (bt s i)) = Bool.true)))) ∧ (viewAll kp [(Prod.mk (0 : Nat) (D.v (Value.string s))), (Prod.mk (1 : Nat) (D.fn (81 : Nat) (0 : Nat) ([] : List D))), (Prod.mk (8 : Nat) (D.ptr (0 : Nat) (0 : Nat)))] [(Option.some (Blk.mk (1000000007 : Nat) [(D.v (Value.string s)), (D.v (Value.int IntKind.i64 ((((Int.toNat ((x : Nat) : Int)) + (Prod.snd (Utf8.decode s (Int.toNat ((x : Nat) : Int))))) : Nat) : Int)))] Bool.true))] [(Prod.mk (0 : Nat) (D.v (Value.string s))), (Prod.mk (1 : Nat) (D.fn (81 : FuncId) (0 : Nat) ([] : List D))), (Prod.mk (8 : Nat) (D.ptr (0 : Nat) (0 : Nat)))] [(Option.some (Blk.mk itTy [(D.v (Value.string s)), (D.v (Value.int IntKind.i64 ((y : Nat) : Int)))] Bool.true))]))))))))))))))) (True ∧ ((∃ (r : Unit), (∃ (kp : (List (Option Nat))), ((∀ (i : Nat), ((i < (ByteArray.size s)) → ((digB (bt s i)) = Bool.true))) ∧ (((Exit.exit (0 : Nat)) = (Exit.exit (0 : Nat))) ∧ (viewAll kp [(Prod.mk (0 : Nat) (D.v (Value.string s)))] [(Option.some (Blk.mk (1000000007 : Nat) [(D.v (Value.string s)), (D.v (Value.int IntKind.i64 ((x : Nat) : Int)))] Bool.true))] (Prod.fst (Prod.snd ((fun (x_1 : Unit) => (Prod.mk (Exit.exit (0 : Nat)) (Prod.mk [(Prod.mk (0 : Nat) (D.v (Value.string s)))] ([] : List (Option Blk))))) r))) (Prod.snd (Prod.snd ((fun (x_1 : Unit) => (Prod.mk (Exit.exit (0 : Nat)) (Prod.mk [(Prod.mk (0 : Nat) (D.v (Value.string s)))] ([] : List (Option Blk))))) r)))))))) ∨ (∃ (r : Nat), (∃ (kp : (List (Option Nat))), (((r < (ByteArray.size s)) ∧ (((digB (bt s r)) = Bool.false) ∧ (∀ (i : Nat), ((i < r) → ((digB (bt s i)) = Bool.true))))) ∧ (((Exit.exit (0 : Nat)) = Exit.ret) ∧ (viewAll kp ([] : List (Prod Nat D)) [(Option.some (Blk.mk (1000000007 : Nat) [(D.v (Value.string s)), (D.v (Value.int IntKind.i64 ((x : Nat) : Int)))] Bool.true))] (Prod.fst (Prod.snd ((fun (n : Nat) => (Prod.mk Exit.ret (Prod.mk [(Prod.mk (4 : Nat) (D.v (Value.int IntKind.i64 ((n : Nat) : Int))))] ([] : List (Option Blk))))) r))) (Prod.snd (Prod.snd ((fun (n : Nat) => (Prod.mk Exit.ret (Prod.mk [(Prod.mk (4 : Nat) (D.v (Value.int IntKind.i64 ((n : Nat) : Int))))] ([] : List (Option Blk))))) r)))))))))))) (by kernel_rfl) ?_
  simp only [true_and, and_true, and_self, IsInt_lit, IsBool_lit, IsStr_lit, Bool.not_eq_true', Bool.not_eq_false', Bool.not_true, Bool.not_false, Int.reduceLE, Int.reduceLT, Int.reduceNeg, Nat.le_refl, Int.le_refl, Nat.reduceLT, Nat.reduceLeDiff, Nat.reduceEqDiff, D.v.injEq, D.tup.injEq, D.agg.injEq, D.ro.injEq, List.cons.injEq, Value.int.injEq, Value.bool.injEq, pcond_true, pcond_false, NamelessL, Nameless, Nat.reduceMul, Nat.reduceAdd, Nat.zero_add, Int.toNat_natCast] at *
  obtain ⟨hx, hall⟩ := hJ
  obtain ⟨p1, p2⟩ := dec_pred digB_lt s x
  rw [digB_int, p1]
  refine pcond_intro (fun h => ?_) (fun h => .inl ⟨(), [], ?_, ?_⟩)
  · simp only [decide_eq_true_eq] at h
    refine pcond_intro (fun h1 => .inr ⟨x, [], ⟨h, by simpa using h1, hall⟩, ?_⟩) (fun h1 => ⟨x + 1, [some 0], by omega, ⟨by omega, fun i hi => ?_⟩, ?_⟩)
    · refine of_eq (B := ((Bool.true = Bool.true) ∧ ((([] : List (Option Blk)) = ([] : List (Option Blk))) ∧ ((True ∧ ((D.v (Value.int IntKind.i64 ((x : Nat) : Int))) = (D.v (Value.int IntKind.i64 ((x : Nat) : Int))))) ∧ True)))) (by kernel_rfl) ?_
      simp
    · rcases Nat.lt_or_ge i x with h2 | h2
      · exact hall i h2
      · rw [show i = x by omega]; simpa using h1
    · have h1 : digB (bt s x) = true := by simpa using h1
      rw [p2 h1]
      refine of_eq (B := ((Bool.true = Bool.true) ∧ (((((Option.some (Blk.mk (1000000007 : Nat) [(D.v (Value.string s)), (D.v (Value.int IntKind.i64 (((x + (1 : Nat)) : Nat) : Int)))] Bool.true)) = (Option.some (Blk.mk (1000000007 : Nat) [(D.v (Value.string s)), (D.v (Value.int IntKind.i64 (((x + (1 : Nat)) : Nat) : Int)))] Bool.true))) ∧ (NamelessL [(D.v (Value.string s)), (D.v (Value.int IntKind.i64 (((x + (1 : Nat)) : Nat) : Int)))])) ∧ (([] : List (Option Blk)) = ([] : List (Option Blk)))) ∧ ((True ∧ ((D.v (Value.string s)) = (D.v (Value.string s)))) ∧ ((True ∧ ((D.fn (81 : Nat) (0 : Nat) ([] : List D)) = (D.fn (81 : Nat) (0 : Nat) ([] : List D)))) ∧ ((True ∧ ((D.ptr (0 : Nat) (0 : Nat)) = (D.ptr (0 : Nat) (0 : Nat)))) ∧ True)))))) (by kernel_rfl) ?_
      simp [NamelessL, Nameless]
  · simp only [decide_eq_false_iff_not] at h
    intro i hi
    exact hall i (by omega)
  · refine of_eq (B := ((Bool.true = Bool.true) ∧ ((([] : List (Option Blk)) = ([] : List (Option Blk))) ∧ ((True ∧ ((D.v (Value.string s)) = (D.v (Value.string s)))) ∧ True)))) (by kernel_rfl) ?_
    simp
/-- the first byte that does not fit -/
def spN (p : Nat → Bool) (s : ByteArray) : Nat := s.data.toList.findIdx (fun b => !p b.toNat)
theorem size_list (s : ByteArray) : s.size = s.data.toList.length := by rw [Array.length_toList]; rfl
theorem bt_get {s : ByteArray} {i : Nat} (h : i < s.data.toList.length) : bt s i = (s.data.toList[i]).toNat := by
  unfold bt; rw [List.getD_eq_getElem?_getD, List.getElem?_eq_getElem h]; rfl
theorem spN_all {p : Nat → Bool} {s : ByteArray} (h : ∀ i, i < s.size → p (bt s i) = true) : spN p s = s.size := by
  unfold spN
  rw [size_list]
  refine List.findIdx_eq_length.2 fun x hx => ?_
  obtain ⟨i, hi, rfl⟩ := List.getElem_of_mem hx
  have := h i (by rw [size_list]; exact hi)
  rw [bt_get hi] at this
  rw [this]; rfl
theorem spN_at {p : Nat → Bool} {s : ByteArray} {n : Nat} (hn : n < s.size) (h0 : p (bt s n) = false) (h : ∀ i, i < n → p (bt s i) = true) : spN p s = n := by
  unfold spN
  rw [size_list] at hn
  refine (List.findIdx_eq hn).2 ⟨?_, fun j hj => ?_⟩
  · rw [bt_get hn] at h0; rw [h0]; rfl
  · have := h j hj
    rw [bt_get (by omega)] at this
    rw [this]; rfl
theorem spanD_pure (s : ByteArray) (hpre : s.size ≤ 9223372036854775807) : PureJ Try.prog 80 [.v (.string s), .fn 81 0 []] (.v (.int .i64 (spN digB s : Nat))) := by
  refine pureJ_of_vcp (call := noCalls) (lp := fun k => bif Nat.beq k 2 then some (lp_spanDLoop s) else none) (N := 10) T_ok mixed noCalls_ok Try.func80 rfl (by decide) (by kernel_rfl) (by kernel_rfl) (of_eq (B := LRuleP Try.prog Try.f80.ntmps (loopAt ((Try.f80.body).getD .skip) 2) (lp_spanDLoop s) ∧ True) (by kernel_rfl) ⟨spanDLoop_rule s hpre, trivial⟩) (by first | trivial | (simp only [NamelessL, Nameless, and_self, and_true, true_and]; done) | (simp [NamelessL, Nameless, u32s_nameless, namelessL_ints]; done)) (by first | trivial | (simp only [NamelessL, Nameless, and_self, and_true, true_and]; done) | (simp [NamelessL, Nameless, u32s_nameless, namelessL_ints]; done)) ?_
  refine of_eq (B := (True ∧ (True ∧ (True ∧ ((((0 : Nat) ≤ (ByteArray.size s)) ∧ (∀ (i : Nat), ((i < (0 : Nat)) → ((digB (bt s i)) = Bool.true)))) ∧ (((Bool.true = Bool.true) ∧ (((((Option.some (Blk.mk (1000000007 : Nat) [(D.v (Value.string s)), (D.v (Value.int IntKind.i64 (0 : Int)))] Bool.true)) = (Option.some (Blk.mk (1000000007 : Nat) [(D.v (Value.string s)), (D.v (Value.int IntKind.i64 (0 : Int)))] Bool.true))) ∧ (NamelessL [(D.v (Value.string s)), (D.v (Value.int IntKind.i64 (0 : Int)))])) ∧ (([] : List (Option Blk)) = ([] : List (Option Blk)))) ∧ ((True ∧ ((D.v (Value.string s)) = (D.v (Value.string s)))) ∧ ((True ∧ ((D.fn (81 : Nat) (0 : Nat) ([] : List D)) = (D.fn (81 : Nat) (0 : Nat) ([] : List D)))) ∧ ((True ∧ ((D.ptr (0 : Nat) (0 : Nat)) = (D.ptr (0 : Nat) (0 : Nat)))) ∧ True))))) ∧ ((Unit → ((∀ (i : Nat), ((i < (ByteArray.size s)) → ((digB (bt s i)) = Bool.true))) → (True ∧ (True ∧ (True ∧ (True ∧ (True ∧ ((D.v (Value.int IntKind.i64 (((ByteArray.size s) : Nat) : Int))) = (D.v (Value.int IntKind.i64 (((spN digB s) : Nat) : Int))))))))))) ∧ (∀ (r : Nat), (((r < (ByteArray.size s)) ∧ (((digB (bt s r)) = Bool.false) ∧ (∀ (i : Nat), ((i < r) → ((digB (bt s i)) = Bool.true))))) → (True ∧ (True ∧ ((D.v (Value.int IntKind.i64 ((r : Nat) : Int))) = (D.v (Value.int IntKind.i64 (((spN digB s) : Nat) : Int))))))))))))))) (by kernel_rfl) ?_
  simp only [true_and, and_true, and_self, IsInt_lit, IsBool_lit, IsStr_lit, Bool.not_eq_true', Bool.not_eq_false', Bool.not_true, Bool.not_false, Int.reduceLE, Int.reduceLT, Int.reduceNeg, Nat.le_refl, Int.le_refl, Nat.reduceLT, Nat.reduceLeDiff, Nat.reduceEqDiff, D.v.injEq, D.tup.injEq, D.agg.injEq, D.ro.injEq, List.cons.injEq, Value.int.injEq, Value.bool.injEq, pcond_true, pcond_false, NamelessL, Nameless, Nat.reduceMul, Nat.reduceAdd, Nat.zero_add, Int.toNat_natCast]
  refine ⟨⟨Nat.zero_le _, fun i h => absurd h (Nat.not_lt_zero _)⟩, fun _ h => by rw [spN_all h], fun r h => by rw [spN_at h.1 h.2.1 h.2.2]⟩
def ent_spanD : Ent := fun ds => match ds with
  | [.v (.string s), .fn 81 0 []] => some (.v (.int .i64 (spN digB s : Nat)), s.size ≤ 9223372036854775807)
  | _ => none
theorem ent_spanD_ok : EntOk Try.prog 80 ent_spanD := by
  intro ds d c h hc; unfold ent_spanD at h; split at h
  · obtain ⟨rfl, rfl⟩ := pair_inj h; exact spanD_pure _ hc
  · cases h
end Go.Proofs.Ythnhfkpihbjddaa
