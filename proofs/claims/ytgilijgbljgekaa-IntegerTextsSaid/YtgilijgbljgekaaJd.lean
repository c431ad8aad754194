/- For any text Parse returns the specified integer or error, and it undoes Text: the given statement IntegerTextsSaid. No condition. -/
import Derived.Test.YtgilijgbljgekaaIw
import Derived.Laws.Strings
import Derived.Test.YtgilijgbljgekaaIj
import Derived.Test.YtgilijgbljgekaaLa
import Derived.Test.YtgilijgbljgekaaRows
import Derived.WalkKit
import Derived.ProofKit
import Derived.OpenShut
namespace Go.Proofs.Ytgilijgbljgekaa
open Go.VD
set_option linter.unusedVariables false
set_option linter.unusedSimpArgs false
set_option maxRecDepth 100000

/-! ## The specification's integers: Parse. -/
/-- the bytes of a string -/
def bys (s : ByteArray) : List Nat := s.data.toList.map (·.toNat)
theorem bys_length (s : ByteArray) : (bys s).length = s.size := by simp [bys]
theorem bys_get (s : ByteArray) (i : Nat) : (s.data.toList.getD i 0).toNat = (bys s).getD i 0 := by
  simp only [bys, List.getD_eq_getElem?_getD, List.getElem?_map]
  cases s.data.toList[i]? <;> rfl
theorem bys_extract (s : ByteArray) (a b : Nat) : bys (s.extract a b) = ((bys s).drop a).take (b - a) := by
  simp [bys, ByteArray.data_extract]
def dig1 (c : Nat) : Bool := decide (48 ≤ c) && decide (c ≤ 57)
def allD (L : List Nat) : Bool := L.all dig1
theorem allD_get {L : List Nat} (h : allD L = true) {i : Nat} (hi : i < L.length) : 48 ≤ L.getD i 0 ∧ L.getD i 0 ≤ 57 := by
  have := List.all_eq_true.1 h (L.getD i 0) (by rw [List.getD_eq_getElem?_getD, List.getElem?_eq_getElem hi]; exact List.getElem_mem hi)
  simpa [dig1] using this
theorem allD_of {L : List Nat} (h : ∀ j, j < L.length → dig1 (L.getD j 0) = true) : allD L = true := by
  refine List.all_eq_true.2 fun c hc => ?_
  obtain ⟨j, hj, rfl⟩ := List.mem_iff_getElem.1 hc
  have := h j hj
  rwa [List.getD_eq_getElem?_getD, List.getElem?_eq_getElem hj] at this
theorem allD_not {L : List Nat} {j : Nat} (hj : j < L.length) (h : dig1 (L.getD j 0) = false) : allD L = false := by
  cases hA : allD L with
  | false => rfl
  | true =>
    have := allD_get hA hj
    unfold dig1 at h
    generalize L.getD j 0 = c at *
    simp at h; omega
def lp_decLoop (d : ByteArray) : LoopO := loopRule2 (α := Nat) (β := Unit) (γ := Unit) [] (fun i => (i ≤ d.size ∧ d.size ≤ 100000) ∧ ∀ j, j < i → dig1 ((bys d).getD j 0) = true) (fun i => [(3, .v (.string d)), (4, .v (.int .i64 (i : Int)))]) (fun _ => []) (0) (fun _ => allD (bys d) = true) (fun _ => (.exit 0, [], [])) (fun _ => allD (bys d) = false) (fun _ => (.ret, [(2, .v (.bool false))], []))
theorem decLoop_rule (d : ByteArray) : LRuleP Try.prog Try.f77.ntmps (loopAt ((Try.f77.body).getD .skip) 7) (lp_decLoop d) := by
  refine lrule_of2 (α := Nat) (β := Unit) (γ := Unit) (call := noCalls) (lp := fun _ => none) (N := 10) T_ok mixed noCalls_ok (fun i => d.size - i) (by kernel_rfl) (LpAllP.none _) ?_
  intro x hJ
  refine of_eq (B := (True ∧ (True ∧ (True ∧ (True ∧ (pcond (Decidable.decide (((x : Nat) : Int) < (((ByteArray.size d) : Nat) : Int))) (True ∧ (True ∧ ((((0 : Int) ≤ ((x : Nat) : Int)) ∧ (((x : Nat) : Int) < (((ByteArray.size d) : Nat) : Int))) ∧ (True ∧ (True ∧ (pcond (Decidable.decide ((((UInt8.toNat (List.getD (Array.toList (ByteArray.data d)) (Int.toNat ((x : Nat) : Int)) (0 : UInt8))) : Nat) : Int) < (48 : Int))) (True ∧ (True ∧ ((∃ (r : Unit), (∃ (kp : (List (Option Nat))), (((allD (bys d)) = Bool.true) ∧ ((Exit.ret = (Exit.exit (0 : Nat))) ∧ (viewAll kp ([] : List (Prod Nat D)) ([] : List (Option Blk)) (Prod.fst (Prod.snd ((fun (x_1 : Unit) => (Prod.mk (Exit.exit (0 : Nat)) (Prod.mk ([] : List (Prod Nat D)) ([] : List (Option Blk))))) r))) (Prod.snd (Prod.snd ((fun (x_1 : Unit) => (Prod.mk (Exit.exit (0 : Nat)) (Prod.mk ([] : List (Prod Nat D)) ([] : List (Option Blk))))) r)))))))) ∨ (∃ (r : Unit), (∃ (kp : (List (Option Nat))), (((allD (bys d)) = Bool.false) ∧ ((Exit.ret = Exit.ret) ∧ (viewAll kp [(Prod.mk (2 : Nat) (D.v (Value.bool Bool.false)))] ([] : List (Option Blk)) (Prod.fst (Prod.snd ((fun (x_1 : Unit) => (Prod.mk Exit.ret (Prod.mk [(Prod.mk (2 : Nat) (D.v (Value.bool Bool.false)))] ([] : List (Option Blk))))) r))) (Prod.snd (Prod.snd ((fun (x_1 : Unit) => (Prod.mk Exit.ret (Prod.mk [(Prod.mk (2 : Nat) (D.v (Value.bool Bool.false)))] ([] : List (Option Blk))))) r))))))))))) (True ∧ (True ∧ ((((0 : Int) ≤ ((x : Nat) : Int)) ∧ (((x : Nat) : Int) < (((ByteArray.size d) : Nat) : Int))) ∧ (True ∧ (True ∧ (pcond (Decidable.decide ((57 : Int) < (((UInt8.toNat (List.getD (Array.toList (ByteArray.data d)) (Int.toNat ((x : Nat) : Int)) (0 : UInt8))) : Nat) : Int))) (True ∧ ((∃ (r : Unit), (∃ (kp : (List (Option Nat))), (((allD (bys d)) = Bool.true) ∧ ((Exit.ret = (Exit.exit (0 : Nat))) ∧ (viewAll kp ([] : List (Prod Nat D)) ([] : List (Option Blk)) (Prod.fst (Prod.snd ((fun (x_1 : Unit) => (Prod.mk (Exit.exit (0 : Nat)) (Prod.mk ([] : List (Prod Nat D)) ([] : List (Option Blk))))) r))) (Prod.snd (Prod.snd ((fun (x_1 : Unit) => (Prod.mk (Exit.exit (0 : Nat)) (Prod.mk ([] : List (Prod Nat D)) ([] : List (Option Blk))))) r)))))))) ∨ (∃ (r : Unit), (∃ (kp : (List (Option Nat))), (((allD (bys d)) = Bool.false) ∧ ((Exit.ret = Exit.ret) ∧ (viewAll kp [(Prod.mk (2 : Nat) (D.v (Value.bool Bool.false)))] ([] : List (Option Blk)) (Prod.fst (Prod.snd ((fun (x_1 : Unit) => (Prod.mk Exit.ret (Prod.mk [(Prod.mk (2 : Nat) (D.v (Value.bool Bool.false)))] ([] : List (Option Blk))))) r))) (Prod.snd (Prod.snd ((fun (x_1 : Unit) => (Prod.mk Exit.ret (Prod.mk [(Prod.mk (2 : Nat) (D.v (Value.bool Bool.false)))] ([] : List (Option Blk))))) r)))))))))) (True ∧ (True ∧ (True ∧ (∃ (y : Nat), (∃ (kp : (List (Option Nat))), ((((ByteArray.size d) - y) < ((ByteArray.size d) - x)) ∧ ((((y ≤ (ByteArray.size d)) ∧ ((ByteArray.size d) ≤ (100000 : Nat))) ∧ (∀ (j : Nat), ((j < y) → ((dig1 (List.getD (bys d) j (0 : Nat))) = Bool.true)))) ∧ (viewAll kp [(Prod.mk (3 : Nat) (D.v (Value.string d))), (Prod.mk (4 : Nat) (D.v (Value.int IntKind.i64 (IntKind.wrap IntKind.i64 (((x : Nat) : Int) + (1 : Int))))))] ([] : List (Option Blk)) [(Prod.mk (3 : Nat) (D.v (Value.string d))), (Prod.mk (4 : Nat) (D.v (Value.int IntKind.i64 ((y : Nat) : Int))))] ([] : List (Option Blk)))))))))))))))))))))) ((∃ (r : Unit), (∃ (kp : (List (Option Nat))), (((allD (bys d)) = Bool.true) ∧ (((Exit.exit (0 : Nat)) = (Exit.exit (0 : Nat))) ∧ (viewAll kp ([] : List (Prod Nat D)) ([] : List (Option Blk)) (Prod.fst (Prod.snd ((fun (x_1 : Unit) => (Prod.mk (Exit.exit (0 : Nat)) (Prod.mk ([] : List (Prod Nat D)) ([] : List (Option Blk))))) r))) (Prod.snd (Prod.snd ((fun (x_1 : Unit) => (Prod.mk (Exit.exit (0 : Nat)) (Prod.mk ([] : List (Prod Nat D)) ([] : List (Option Blk))))) r)))))))) ∨ (∃ (r : Unit), (∃ (kp : (List (Option Nat))), (((allD (bys d)) = Bool.false) ∧ (((Exit.exit (0 : Nat)) = Exit.ret) ∧ (viewAll kp ([] : List (Prod Nat D)) ([] : List (Option Blk)) (Prod.fst (Prod.snd ((fun (x_1 : Unit) => (Prod.mk Exit.ret (Prod.mk [(Prod.mk (2 : Nat) (D.v (Value.bool Bool.false)))] ([] : List (Option Blk))))) r))) (Prod.snd (Prod.snd ((fun (x_1 : Unit) => (Prod.mk Exit.ret (Prod.mk [(Prod.mk (2 : Nat) (D.v (Value.bool Bool.false)))] ([] : List (Option Blk))))) r))))))))))))))) (by kernel_rfl) ?_
  simp only [true_and, and_true, and_self, IsInt_lit, IsBool_lit, IsStr_lit, Bool.not_eq_true', Bool.not_eq_false', Bool.not_true, Bool.not_false, Int.reduceLE, Int.reduceLT, Int.reduceNeg, Nat.le_refl, Int.le_refl, Nat.reduceLT, Nat.reduceLeDiff, Nat.reduceEqDiff, D.v.injEq, D.tup.injEq, D.agg.injEq, D.ro.injEq, List.cons.injEq, Value.int.injEq, Value.bool.injEq, pcond_true, pcond_false, NamelessL, Nameless, Nat.reduceMul, Nat.reduceAdd, Nat.zero_add, Int.toNat_natCast, bys_get]
  obtain ⟨⟨hx, hb⟩, hJ⟩ := hJ
  have hl := bys_length d
  refine pcond_intro (fun h => ?_) (fun h => ?_)
  · simp only [decide_eq_true_eq] at h
    have e3 : IntKind.i64.wrap ((x : Int) + 1) = ((x + 1 : Nat) : Int) := by rw [wrap_i64_of (by omega) (by omega)]; omega
    simp only [e3]
    refine ⟨⟨by omega, by omega⟩, pcond_intro (fun h1 => .inr ⟨(), [], ?_, ?_⟩) (fun h1 => ⟨⟨by omega, by omega⟩, pcond_intro (fun h2 => .inr ⟨(), [], ?_, ?_⟩) (fun h2 => ⟨x + 1, [], by omega, ⟨⟨by omega, hb⟩, fun j hj => ?_⟩, ?_⟩)⟩)⟩
    · simp only [decide_eq_true_eq] at h1
      refine allD_not (j := x) (by omega) ?_
      unfold dig1; generalize (bys d).getD x 0 = c at *; simp; omega
    · refine of_eq (B := ((Bool.true = Bool.true) ∧ ((([] : List (Option Blk)) = ([] : List (Option Blk))) ∧ ((True ∧ ((D.v (Value.bool Bool.false)) = (D.v (Value.bool Bool.false)))) ∧ True)))) (by kernel_rfl) ?_
      simp
    · simp only [decide_eq_true_eq] at h2
      refine allD_not (j := x) (by omega) ?_
      unfold dig1; generalize (bys d).getD x 0 = c at *; simp; omega
    · refine of_eq (B := ((Bool.true = Bool.true) ∧ ((([] : List (Option Blk)) = ([] : List (Option Blk))) ∧ ((True ∧ ((D.v (Value.bool Bool.false)) = (D.v (Value.bool Bool.false)))) ∧ True)))) (by kernel_rfl) ?_
      simp
    · simp only [decide_eq_false_iff_not] at h1 h2
      rcases Nat.lt_or_ge j x with h3 | h3
      · exact hJ j h3
      · rw [show j = x by omega]
        unfold dig1; generalize (bys d).getD x 0 = c at *; simp; omega
    · refine of_eq (B := ((Bool.true = Bool.true) ∧ ((([] : List (Option Blk)) = ([] : List (Option Blk))) ∧ ((True ∧ ((D.v (Value.string d)) = (D.v (Value.string d)))) ∧ ((True ∧ ((D.v (Value.int IntKind.i64 (((x + (1 : Nat)) : Nat) : Int))) = (D.v (Value.int IntKind.i64 (((x + (1 : Nat)) : Nat) : Int))))) ∧ True))))) (by kernel_rfl) ?_
      simp
  · simp only [decide_eq_false_iff_not] at h
    refine .inl ⟨(), [], allD_of fun j hj => hJ j (by omega), ?_⟩
    refine of_eq (B := ((Bool.true = Bool.true) ∧ ((([] : List (Option Blk)) = ([] : List (Option Blk))) ∧ True))) (by kernel_rfl) ?_
    simp
/-- the text of an integer in decimal: its digits, whether it is one -/
def decD (L : List Nat) : List Nat := if L.getD 0 0 = 45 then L.drop 1 else L
def decOk (L : List Nat) : Bool := !(decide ((decD L).length = 0)) && !(decide ((decD L).getD 0 0 = 48) && decide (1 < L.length)) && allD (decD L)
theorem dec_tail {a s : ByteArray} {F : Prop} (hD : decD (bys s) = bys a) (hle : a.size ≤ s.size) (hF : allD (bys a) = decOk (bys s) → F) : pcond (((a.size : Nat) : Int) == 0) (false = decOk (bys s)) (0 < ((a.size : Nat) : Int) ∧ pcond ((((bys a).getD 0 0 : Nat) : Int) == 48) (pcond (decide (1 < ((a.size : Nat) : Int))) (false = decOk (bys s)) (pcond (decide (1 < ((s.size : Nat) : Int))) (false = decOk (bys s)) F)) F) := by
  have ha := bys_length a
  have hs := bys_length s
  have e : decOk (bys s) = (!(decide (a.size = 0)) && !(decide ((bys a).getD 0 0 = 48) && decide (1 < s.size)) && allD (bys a)) := by
    unfold decOk; rw [hD, ha, hs]
  rw [e] at hF ⊢
  refine pcond_intro (fun h => ?_) (fun h => ?_)
  · have : a.size = 0 := by simp only [beq_iff_eq] at h; omega
    simp [this]
  · have h0 : a.size ≠ 0 := by simp only [beq_eq_false_iff_ne] at h; omega
    refine ⟨by omega, pcond_intro (fun h1 => pcond_intro (fun h2 => ?_) (fun h2 => pcond_intro (fun h3 => ?_) (fun h3 => hF ?_))) (fun h1 => hF ?_)⟩
    · simp only [beq_iff_eq, decide_eq_true_eq] at h1 h2
      have : (bys a).getD 0 0 = 48 := by omega
      rw [decide_eq_true this, decide_eq_true (show 1 < s.size by omega)]; simp
    · simp only [beq_iff_eq, decide_eq_true_eq] at h1 h3
      have : (bys a).getD 0 0 = 48 := by omega
      rw [decide_eq_true this, decide_eq_true (show 1 < s.size by omega)]; simp
    · simp only [decide_eq_false_iff_not] at h3
      simp [h0, show ¬ 1 < s.size by omega]
    · have : (bys a).getD 0 0 ≠ 48 := fun k => by rw [k] at h1; simp at h1
      simp only [decide_eq_false this, h0, decide_false, Bool.not_false, Bool.false_and, Bool.true_and]
theorem decimal_pure (s : ByteArray) (hpre : s.size ≤ 100000) : PureJ Try.prog 77 [.v (.string s)] (.v (.bool (decOk (bys s)))) := by
  refine pureJ_of_vcp (call := noCalls) (lp := fun k => bif Nat.beq k 7 then some (exLoop (fun p : ByteArray => lp_decLoop  p)) else none) (N := 10) T_ok mixed noCalls_ok Try.func77 rfl (by decide) (by kernel_rfl) (by kernel_rfl) (of_eq (B := LRuleP Try.prog Try.f77.ntmps (loopAt ((Try.f77.body).getD .skip) 7) (exLoop (fun p : ByteArray => lp_decLoop  p)) ∧ True) (by kernel_rfl) ⟨exLoop_rule (fun p : ByteArray => decLoop_rule  p), trivial⟩) (by first | trivial | (simp only [NamelessL, Nameless, and_self, and_true, true_and]; done) | (simp [NamelessL, Nameless, u32s_nameless, namelessL_ints]; done)) (by first | trivial | (simp only [NamelessL, Nameless, and_self, and_true, true_and]; done) | (simp [NamelessL, Nameless, u32s_nameless, namelessL_ints]; done)) ?_
  refine of_eq (B := (True ∧ (True ∧ (True ∧ (True ∧ (True ∧ (True ∧ (True ∧ (pcond (Decidable.decide ((0 : Int) < (((ByteArray.size s) : Nat) : Int))) (True ∧ ((((0 : Int) ≤ (0 : Int)) ∧ ((0 : Int) < (((ByteArray.size s) : Nat) : Int))) ∧ (True ∧ (True ∧ (pcond ((((UInt8.toNat (List.getD (Array.toList (ByteArray.data s)) (0 : Nat) (0 : UInt8))) : Nat) : Int) == (45 : Int)) (True ∧ (((((0 : Int) ≤ (1 : Int)) ∧ ((1 : Int) ≤ (((ByteArray.size s) : Nat) : Int))) ∧ (True ∧ True)) ∧ (True ∧ (True ∧ (True ∧ (True ∧ (True ∧ (pcond ((((ByteArray.size (ByteArray.extract s (1 : Nat) (ByteArray.size s))) : Nat) : Int) == (0 : Int)) ((([] : List Value) = ([] : List Value)) ∧ ((([] : List Value) = ([] : List Value)) ∧ ((([] : List Value) = ([] : List Value)) ∧ ((([] : List Value) = ([] : List Value)) ∧ ((([] : List Value) = ([] : List Value)) ∧ ((([] : List Value) = ([] : List Value)) ∧ ((([] : List Value) = ([] : List Value)) ∧ ((([] : List Value) = ([] : List Value)) ∧ (True ∧ (True ∧ (True ∧ (True ∧ ((D.v (Value.bool Bool.false)) = (D.v (Value.bool (decOk (bys s))))))))))))))))) (True ∧ ((((0 : Int) ≤ (0 : Int)) ∧ ((0 : Int) < (((ByteArray.size (ByteArray.extract s (1 : Nat) (ByteArray.size s))) : Nat) : Int))) ∧ (True ∧ (True ∧ (pcond ((((UInt8.toNat (List.getD (Array.toList (ByteArray.data (ByteArray.extract s (1 : Nat) (ByteArray.size s)))) (0 : Nat) (0 : UInt8))) : Nat) : Int) == (48 : Int)) (True ∧ (True ∧ (True ∧ (True ∧ (pcond (Decidable.decide ((1 : Int) < (((ByteArray.size (ByteArray.extract s (1 : Nat) (ByteArray.size s))) : Nat) : Int))) (True ∧ (True ∧ (True ∧ (True ∧ (True ∧ (True ∧ ((D.v (Value.bool Bool.false)) = (D.v (Value.bool (decOk (bys s))))))))))) (True ∧ (True ∧ (True ∧ (True ∧ (True ∧ (True ∧ (pcond (Decidable.decide ((1 : Int) < (((ByteArray.size s) : Nat) : Int))) (True ∧ (True ∧ (True ∧ ((D.v (Value.bool Bool.false)) = (D.v (Value.bool (decOk (bys s)))))))) (True ∧ (∃ (a : ByteArray), (((((0 : Nat) ≤ (ByteArray.size a)) ∧ ((ByteArray.size a) ≤ (100000 : Nat))) ∧ (∀ (j : Nat), ((j < (0 : Nat)) → ((dig1 (List.getD (bys a) j (0 : Nat))) = Bool.true)))) ∧ (((Bool.true = Bool.true) ∧ ((([] : List (Option Blk)) = ([] : List (Option Blk))) ∧ ((True ∧ ((D.v (Value.string (ByteArray.extract s (1 : Nat) (ByteArray.size s)))) = (D.v (Value.string a)))) ∧ ((True ∧ ((D.v (Value.int IntKind.i64 (0 : Int))) = (D.v (Value.int IntKind.i64 (0 : Int))))) ∧ True)))) ∧ ((Unit → (((allD (bys a)) = Bool.true) → (True ∧ (True ∧ (True ∧ ((D.v (Value.bool Bool.true)) = (D.v (Value.bool (decOk (bys s)))))))))) ∧ (Unit → (((allD (bys a)) = Bool.false) → (True ∧ (True ∧ ((D.v (Value.bool Bool.false)) = (D.v (Value.bool (decOk (bys s)))))))))))))))))))))))))) ((([] : List Value) = ([] : List Value)) ∧ ((([] : List Value) = ([] : List Value)) ∧ ((([] : List Value) = ([] : List Value)) ∧ (True ∧ (True ∧ (True ∧ (∃ (a : ByteArray), (((((0 : Nat) ≤ (ByteArray.size a)) ∧ ((ByteArray.size a) ≤ (100000 : Nat))) ∧ (∀ (j : Nat), ((j < (0 : Nat)) → ((dig1 (List.getD (bys a) j (0 : Nat))) = Bool.true)))) ∧ (((Bool.true = Bool.true) ∧ ((([] : List (Option Blk)) = ([] : List (Option Blk))) ∧ ((True ∧ ((D.v (Value.string (ByteArray.extract s (1 : Nat) (ByteArray.size s)))) = (D.v (Value.string a)))) ∧ ((True ∧ ((D.v (Value.int IntKind.i64 (0 : Int))) = (D.v (Value.int IntKind.i64 (0 : Int))))) ∧ True)))) ∧ ((Unit → (((allD (bys a)) = Bool.true) → (True ∧ (True ∧ (True ∧ ((D.v (Value.bool Bool.true)) = (D.v (Value.bool (decOk (bys s)))))))))) ∧ (Unit → (((allD (bys a)) = Bool.false) → (True ∧ (True ∧ ((D.v (Value.bool Bool.false)) = (D.v (Value.bool (decOk (bys s)))))))))))))))))))))))))))))))) (True ∧ (True ∧ (True ∧ (True ∧ (pcond ((((ByteArray.size s) : Nat) : Int) == (0 : Int)) ((([] : List Value) = ([] : List Value)) ∧ ((([] : List Value) = ([] : List Value)) ∧ ((([] : List Value) = ([] : List Value)) ∧ ((([] : List Value) = ([] : List Value)) ∧ ((([] : List Value) = ([] : List Value)) ∧ ((([] : List Value) = ([] : List Value)) ∧ ((([] : List Value) = ([] : List Value)) ∧ ((([] : List Value) = ([] : List Value)) ∧ (True ∧ (True ∧ (True ∧ (True ∧ ((D.v (Value.bool Bool.false)) = (D.v (Value.bool (decOk (bys s))))))))))))))))) (True ∧ ((((0 : Int) ≤ (0 : Int)) ∧ ((0 : Int) < (((ByteArray.size s) : Nat) : Int))) ∧ (True ∧ (True ∧ (pcond ((((UInt8.toNat (List.getD (Array.toList (ByteArray.data s)) (0 : Nat) (0 : UInt8))) : Nat) : Int) == (48 : Int)) (True ∧ (True ∧ (True ∧ (True ∧ (pcond (Decidable.decide ((1 : Int) < (((ByteArray.size s) : Nat) : Int))) (True ∧ (True ∧ (True ∧ (True ∧ (True ∧ (True ∧ ((D.v (Value.bool Bool.false)) = (D.v (Value.bool (decOk (bys s))))))))))) (True ∧ (True ∧ (True ∧ (True ∧ (True ∧ (True ∧ (pcond (Decidable.decide ((1 : Int) < (((ByteArray.size s) : Nat) : Int))) (True ∧ (True ∧ (True ∧ ((D.v (Value.bool Bool.false)) = (D.v (Value.bool (decOk (bys s)))))))) (True ∧ (∃ (a : ByteArray), (((((0 : Nat) ≤ (ByteArray.size a)) ∧ ((ByteArray.size a) ≤ (100000 : Nat))) ∧ (∀ (j : Nat), ((j < (0 : Nat)) → ((dig1 (List.getD (bys a) j (0 : Nat))) = Bool.true)))) ∧ (((Bool.true = Bool.true) ∧ ((([] : List (Option Blk)) = ([] : List (Option Blk))) ∧ ((True ∧ ((D.v (Value.string s)) = (D.v (Value.string a)))) ∧ ((True ∧ ((D.v (Value.int IntKind.i64 (0 : Int))) = (D.v (Value.int IntKind.i64 (0 : Int))))) ∧ True)))) ∧ ((Unit → (((allD (bys a)) = Bool.true) → (True ∧ (True ∧ (True ∧ ((D.v (Value.bool Bool.true)) = (D.v (Value.bool (decOk (bys s)))))))))) ∧ (Unit → (((allD (bys a)) = Bool.false) → (True ∧ (True ∧ ((D.v (Value.bool Bool.false)) = (D.v (Value.bool (decOk (bys s)))))))))))))))))))))))))) ((([] : List Value) = ([] : List Value)) ∧ ((([] : List Value) = ([] : List Value)) ∧ ((([] : List Value) = ([] : List Value)) ∧ (True ∧ (True ∧ (True ∧ (∃ (a : ByteArray), (((((0 : Nat) ≤ (ByteArray.size a)) ∧ ((ByteArray.size a) ≤ (100000 : Nat))) ∧ (∀ (j : Nat), ((j < (0 : Nat)) → ((dig1 (List.getD (bys a) j (0 : Nat))) = Bool.true)))) ∧ (((Bool.true = Bool.true) ∧ ((([] : List (Option Blk)) = ([] : List (Option Blk))) ∧ ((True ∧ ((D.v (Value.string s)) = (D.v (Value.string a)))) ∧ ((True ∧ ((D.v (Value.int IntKind.i64 (0 : Int))) = (D.v (Value.int IntKind.i64 (0 : Int))))) ∧ True)))) ∧ ((Unit → (((allD (bys a)) = Bool.true) → (True ∧ (True ∧ (True ∧ ((D.v (Value.bool Bool.true)) = (D.v (Value.bool (decOk (bys s)))))))))) ∧ (Unit → (((allD (bys a)) = Bool.false) → (True ∧ (True ∧ ((D.v (Value.bool Bool.false)) = (D.v (Value.bool (decOk (bys s)))))))))))))))))))))))))))))))))) (True ∧ (True ∧ (True ∧ (True ∧ (True ∧ (pcond ((((ByteArray.size s) : Nat) : Int) == (0 : Int)) ((([] : List Value) = ([] : List Value)) ∧ ((([] : List Value) = ([] : List Value)) ∧ ((([] : List Value) = ([] : List Value)) ∧ ((([] : List Value) = ([] : List Value)) ∧ ((([] : List Value) = ([] : List Value)) ∧ ((([] : List Value) = ([] : List Value)) ∧ ((([] : List Value) = ([] : List Value)) ∧ ((([] : List Value) = ([] : List Value)) ∧ (True ∧ (True ∧ (True ∧ (True ∧ ((D.v (Value.bool Bool.false)) = (D.v (Value.bool (decOk (bys s))))))))))))))))) (True ∧ ((((0 : Int) ≤ (0 : Int)) ∧ ((0 : Int) < (((ByteArray.size s) : Nat) : Int))) ∧ (True ∧ (True ∧ (pcond ((((UInt8.toNat (List.getD (Array.toList (ByteArray.data s)) (0 : Nat) (0 : UInt8))) : Nat) : Int) == (48 : Int)) (True ∧ (True ∧ (True ∧ (True ∧ (pcond (Decidable.decide ((1 : Int) < (((ByteArray.size s) : Nat) : Int))) (True ∧ (True ∧ (True ∧ (True ∧ (True ∧ (True ∧ ((D.v (Value.bool Bool.false)) = (D.v (Value.bool (decOk (bys s))))))))))) (True ∧ (True ∧ (True ∧ (True ∧ (True ∧ (True ∧ (pcond (Decidable.decide ((1 : Int) < (((ByteArray.size s) : Nat) : Int))) (True ∧ (True ∧ (True ∧ ((D.v (Value.bool Bool.false)) = (D.v (Value.bool (decOk (bys s)))))))) (True ∧ (∃ (a : ByteArray), (((((0 : Nat) ≤ (ByteArray.size a)) ∧ ((ByteArray.size a) ≤ (100000 : Nat))) ∧ (∀ (j : Nat), ((j < (0 : Nat)) → ((dig1 (List.getD (bys a) j (0 : Nat))) = Bool.true)))) ∧ (((Bool.true = Bool.true) ∧ ((([] : List (Option Blk)) = ([] : List (Option Blk))) ∧ ((True ∧ ((D.v (Value.string s)) = (D.v (Value.string a)))) ∧ ((True ∧ ((D.v (Value.int IntKind.i64 (0 : Int))) = (D.v (Value.int IntKind.i64 (0 : Int))))) ∧ True)))) ∧ ((Unit → (((allD (bys a)) = Bool.true) → (True ∧ (True ∧ (True ∧ ((D.v (Value.bool Bool.true)) = (D.v (Value.bool (decOk (bys s)))))))))) ∧ (Unit → (((allD (bys a)) = Bool.false) → (True ∧ (True ∧ ((D.v (Value.bool Bool.false)) = (D.v (Value.bool (decOk (bys s)))))))))))))))))))))))))) ((([] : List Value) = ([] : List Value)) ∧ ((([] : List Value) = ([] : List Value)) ∧ ((([] : List Value) = ([] : List Value)) ∧ (True ∧ (True ∧ (True ∧ (∃ (a : ByteArray), (((((0 : Nat) ≤ (ByteArray.size a)) ∧ ((ByteArray.size a) ≤ (100000 : Nat))) ∧ (∀ (j : Nat), ((j < (0 : Nat)) → ((dig1 (List.getD (bys a) j (0 : Nat))) = Bool.true)))) ∧ (((Bool.true = Bool.true) ∧ ((([] : List (Option Blk)) = ([] : List (Option Blk))) ∧ ((True ∧ ((D.v (Value.string s)) = (D.v (Value.string a)))) ∧ ((True ∧ ((D.v (Value.int IntKind.i64 (0 : Int))) = (D.v (Value.int IntKind.i64 (0 : Int))))) ∧ True)))) ∧ ((Unit → (((allD (bys a)) = Bool.true) → (True ∧ (True ∧ (True ∧ ((D.v (Value.bool Bool.true)) = (D.v (Value.bool (decOk (bys s)))))))))) ∧ (Unit → (((allD (bys a)) = Bool.false) → (True ∧ (True ∧ ((D.v (Value.bool Bool.false)) = (D.v (Value.bool (decOk (bys s))))))))))))))))))))))))))))))))))))))) (by kernel_rfl) ?_
  simp only [true_and, and_true, and_self, IsInt_lit, IsBool_lit, IsStr_lit, Bool.not_eq_true', Bool.not_eq_false', Bool.not_true, Bool.not_false, Int.reduceLE, Int.reduceLT, Int.reduceNeg, Nat.le_refl, Int.le_refl, Nat.reduceLT, Nat.reduceLeDiff, Nat.reduceEqDiff, D.v.injEq, D.tup.injEq, D.agg.injEq, D.ro.injEq, List.cons.injEq, Value.int.injEq, Value.bool.injEq, pcond_true, pcond_false, NamelessL, Nameless, Nat.reduceMul, Nat.reduceAdd, Nat.zero_add, Int.toNat_natCast, bys_get]
  have hl := bys_length s
  have fin : ∀ a : ByteArray, a.size ≤ 100000 → allD (bys a) = decOk (bys s) → (∃ a', ((0 ≤ a'.size ∧ a'.size ≤ 100000) ∧ ∀ (j : Nat), j < 0 → dig1 ((bys a').getD j 0) = true) ∧ Value.string a = Value.string a' ∧ (∀ (r : Unit), allD (bys a') = true → true = decOk (bys s)) ∧ ∀ (r : Unit), allD (bys a') = false → false = decOk (bys s)) :=
    fun a hb h => ⟨a, ⟨⟨Nat.zero_le _, hb⟩, fun j hj => absurd hj (Nat.not_lt_zero _)⟩, rfl, fun _ h2 => by rw [← h, h2], fun _ h2 => by rw [← h, h2]⟩
  refine pcond_intro (fun h => ⟨by simpa using h, pcond_intro (fun h1 => ⟨?_, ?_⟩) (fun h1 => ?_)⟩) (fun h => ?_)
  · simp only [decide_eq_true_eq] at h; omega
  · have h2 : (bys s).getD 0 0 = 45 := by simp only [beq_iff_eq] at h1; omega
    have hx : bys (s.extract 1 s.size) = (bys s).drop 1 := by rw [bys_extract, List.take_of_length_le (by simp [hl])]
    have hsz : (s.extract 1 s.size).size ≤ s.size := by rw [← bys_length, hx]; simp [hl]
    exact dec_tail (by rw [hx]; simp only [decD, h2, if_true]) hsz (fin _ (by omega))
  · have h2 : (bys s).getD 0 0 ≠ 45 := fun k => by rw [k] at h1; simp at h1
    exact dec_tail (by simp only [decD, h2, if_false]) (Nat.le_refl _) (fin _ hpre)
  · have h2 : (bys s).getD 0 0 ≠ 45 := by
      simp only [decide_eq_false_iff_not] at h
      rw [List.getD_eq_getElem?_getD, List.getElem?_eq_none (by omega)]; simp
    exact dec_tail (by simp only [decD, h2, if_false]) (Nat.le_refl _) (fin _ hpre)
def ent_decimal : Ent := fun ds => match ds with
  | [.v (.string s)] => some (.v (.bool (decOk (bys s))), s.size ≤ 100000)
  | _ => none
theorem ent_decimal_ok : EntOk Try.prog 77 ent_decimal := by
  intro ds d c h hc; unfold ent_decimal at h; split at h
  · obtain ⟨rfl, rfl⟩ := pair_inj h; exact decimal_pure _ hc
  · cases h
/-- the value of decimal digits, the first one first -/
def dvl (L : List Nat) : Nat := L.foldl (fun v c => 10 * v + (c - 48)) 0
theorem dvl_app (L : List Nat) (c : Nat) : dvl (L ++ [c]) = 10 * dvl L + (c - 48) := by simp [dvl]
/-- the digits among the first i bytes -/
def decT (L : List Nat) (i : Nat) : List Nat := (L.take i).filter (fun c => !(c == 45))
theorem decT_succ {L : List Nat} {i : Nat} (hi : i < L.length) : decT L (i + 1) = decT L i ++ (if L.getD i 0 = 45 then [] else [L.getD i 0]) := by
  have e : L.take (i + 1) = L.take i ++ [L.getD i 0] := by
    rw [List.take_succ_eq_append_getElem hi, List.getD_eq_getElem?_getD, List.getElem?_eq_getElem hi]; rfl
  unfold decT
  rw [e, List.filter_append]
  congr 1
  by_cases h : L.getD i 0 = 45
  · rw [if_pos h, h]; rfl
  · rw [if_neg h]
    simp only [List.filter_cons, List.filter_nil, beq_eq_false_iff_ne.2 h, Bool.not_false, if_true]
/-- what is known of a text in decimal -/
structure DecJ (L : List Nat) : Prop where
  len : L.length ≤ 4000
  some : 0 < L.length
  two : L.getD 0 0 = 45 → 1 < L.length
  dig : ∀ j, j < L.length → j = 0 ∧ L.getD j 0 = 45 ∨ dig1 (L.getD j 0) = true
theorem decJ_of {L : List Nat} (hl : L.length ≤ 4000) (h : decOk L = true) : DecJ L := by
  unfold decOk at h
  simp only [Bool.and_eq_true, Bool.not_eq_true', decide_eq_false_iff_not] at h
  obtain ⟨⟨h1, h2⟩, h3⟩ := h
  have hd : (decD L).length ≤ L.length := by unfold decD; split <;> simp
  refine ⟨hl, by omega, fun h0 => ?_, fun j hj => ?_⟩
  · unfold decD at h1; rw [if_pos h0] at h1; simp at h1; omega
  · by_cases h0 : L.getD 0 0 = 45
    · rcases Nat.eq_zero_or_pos j with h4 | h4
      · subst h4; exact .inl ⟨rfl, h0⟩
      · refine .inr ?_
        unfold decD at h3; rw [if_pos h0] at h3
        have := allD_get h3 (i := j - 1) (by simp; omega)
        rw [List.getD_eq_getElem?_getD, List.getElem?_drop, show 1 + (j - 1) = j by omega, ← List.getD_eq_getElem?_getD] at this
        unfold dig1; generalize L.getD j 0 = c at *; simp; omega
    · refine .inr ?_
      unfold decD at h3; rw [if_neg h0] at h3
      have := allD_get h3 hj
      unfold dig1; generalize L.getD j 0 = c at *; simp; omega
theorem nv_plusL {xs ys : List Nat} (hx : Dig xs) (hy : Dig ys) : nv (plusL xs ys) = nv xs + nv ys ∧ Dig (plusL xs ys) := by
  have hd : Dig (plusL xs ys) := by unfold plusL; exact dgn_dig _ _
  have := trimL_plus hx hy
  rw [trimL_dig hd] at this
  have h2 := congrArg nv this
  rw [nv_dg, nv_dg] at h2
  exact ⟨h2, hd⟩
inductive PS where
  | first (i : Nat)
  | mid (ws : List Nat) (i : Nat)
def d_pb : Option Blk := some ⟨24, [.v (.bool false), .v (.slice none 0 0)], true⟩
def lp_parLoop (s : ByteArray) : LoopO := loopRule (α := PS) (β := List Nat) [some 0] (fun p => match p with  | .first i => DecJ (bys s) ∧ (i = 0 ∨ i = 1 ∧ (bys s).getD 0 0 = 45)  | .mid ws i => DecJ (bys s) ∧ (0 < i ∧ i ≤ s.size) ∧ (Dig ws ∧ nv ws = dvl (decT (bys s) i)) ∧ ws.length ≤ 2 * i) (fun p => match p with  | .first i => [(0, .v (.string s)), (2, .ptr 0 0), (4, .v (.slice none 0 0)), (5, .v (.int .i64 (i : Int)))]  | .mid ws i => [(0, .v (.string s)), (2, .ptr 0 0), (4, .ro ws.length (u32s ws)), (5, .v (.int .i64 (i : Int)))]) (fun p => match p with  | .first i => [d_pb]  | .mid ws i => [d_pb]) (PS.first 0) (fun ws => (Dig ws ∧ nv ws = dvl (decT (bys s) s.size)) ∧ ws.length ≤ 8000) (fun ws => (.exit 0, [(0, .v (.string s)), (2, .ptr 0 0), (4, .ro ws.length (u32s ws))], [d_pb]))
theorem parLoop_rule (s : ByteArray) : LRuleP Try.prog Try.f46.ntmps (loopAt ((Try.f46.body).getD .skip) 7) (lp_parLoop s) := by
  refine lrule_of (α := PS) (β := List Nat) (call := (addPure 78 (nilEnt ent_digits) (addPure 65 (nilEnt ent_times) (addPure 62 (nilEnt ent_plus) noCalls)))) (lp := fun _ => none) (N := 10) T_ok mixed (addPure_ok (nilEnt_ok ent_digits_ok) (addPure_ok (nilEnt_ok ent_times_ok) (addPure_ok (nilEnt_ok ent_plus_ok) noCalls_ok))) (fun p => match p with  | .first i => s.size - i  | .mid ws i => s.size - i) (by kernel_rfl) (LpAllP.none _) ?_
  intro x hJ
  have hsz := bys_length s
  have u10 : [D.v (Value.int IntKind.u32 10)] = u32s [10] := rfl
  have d10 : Dig [10] := by simp [Dig]
  have n10 : nv [10] = 10 := by simp [nv]
  cases x with
  | first i =>
    obtain ⟨hD, hi⟩ := hJ
    refine of_eq (B := (True ∧ (True ∧ (True ∧ (True ∧ (pcond (Decidable.decide (((i : Nat) : Int) < (((ByteArray.size s) : Nat) : Int))) (True ∧ (True ∧ ((((0 : Int) ≤ ((i : Nat) : Int)) ∧ (((i : Nat) : Int) < (((ByteArray.size s) : Nat) : Int))) ∧ (True ∧ (pcond ((((UInt8.toNat (List.getD (Array.toList (ByteArray.data s)) (Int.toNat ((i : Nat) : Int)) (0 : UInt8))) : Nat) : Int) != (45 : Int)) (True ∧ ((((1 : Nat) ≤ (16777216 : Nat)) ∧ ((1 : Nat) ≤ (9223372036854775807 : Nat))) ∧ (((True ∧ (((NamelessL [(D.v (Value.int IntKind.u32 (10 : Int)))]) ∧ (((0 : Nat) < (1 : Nat)) ∧ ((1 : Nat) ≤ (1 : Nat)))) ∧ True)) ∧ ((([(D.v (Value.int IntKind.u32 (10 : Int)))] = (u32s (unu [(D.v (Value.int IntKind.u32 (10 : Int)))]))) ∧ ((1 : Nat) = (1 : Nat))) ∧ (((([] : List D) = (u32s (unu ([] : List D)))) ∧ ((0 : Nat) = (0 : Nat))) ∧ (((0 : Nat) ≤ (400000 : Nat)) ∧ (((1 : Nat) ≤ (400000 : Nat)) ∧ ((Dig (unu ([] : List D))) ∧ (Dig (unu [(D.v (Value.int IntKind.u32 (10 : Int)))])))))))) ∧ (True ∧ (True ∧ ((((0 : Int) ≤ ((i : Nat) : Int)) ∧ (((i : Nat) : Int) < (((ByteArray.size s) : Nat) : Int))) ∧ (True ∧ (True ∧ ((((0 : Int) ≤ (IntKind.wrap IntKind.u64 (IntKind.wrap IntKind.u8 ((((UInt8.toNat (List.getD (Array.toList (ByteArray.data s)) (Int.toNat ((i : Nat) : Int)) (0 : UInt8))) : Nat) : Int) - (48 : Int))))) ∧ ((IntKind.wrap IntKind.u64 (IntKind.wrap IntKind.u8 ((((UInt8.toNat (List.getD (Array.toList (ByteArray.data s)) (Int.toNat ((i : Nat) : Int)) (0 : UInt8))) : Nat) : Int) - (48 : Int)))) < (18446744073709551616 : Int))) ∧ (((((u32s (dg (Int.toNat (IntKind.wrap IntKind.u64 (IntKind.wrap IntKind.u8 ((((UInt8.toNat (List.getD (Array.toList (ByteArray.data s)) (Int.toNat ((i : Nat) : Int)) (0 : UInt8))) : Nat) : Int) - (48 : Int))))))) = (u32s (unu (u32s (dg (Int.toNat (IntKind.wrap IntKind.u64 (IntKind.wrap IntKind.u8 ((((UInt8.toNat (List.getD (Array.toList (ByteArray.data s)) (Int.toNat ((i : Nat) : Int)) (0 : UInt8))) : Nat) : Int) - (48 : Int)))))))))) ∧ ((List.length (dg (Int.toNat (IntKind.wrap IntKind.u64 (IntKind.wrap IntKind.u8 ((((UInt8.toNat (List.getD (Array.toList (ByteArray.data s)) (Int.toNat ((i : Nat) : Int)) (0 : UInt8))) : Nat) : Int) - (48 : Int))))))) = (List.length (unu (u32s (dg (Int.toNat (IntKind.wrap IntKind.u64 (IntKind.wrap IntKind.u8 ((((UInt8.toNat (List.getD (Array.toList (ByteArray.data s)) (Int.toNat ((i : Nat) : Int)) (0 : UInt8))) : Nat) : Int) - (48 : Int))))))))))) ∧ ((((u32s (dg (0 : Nat))) = (u32s (unu (u32s (dg (0 : Nat)))))) ∧ ((0 : Nat) = (0 : Nat))) ∧ (((0 : Nat) ≤ (400000 : Nat)) ∧ (((List.length (unu (u32s (dg (Int.toNat (IntKind.wrap IntKind.u64 (IntKind.wrap IntKind.u8 ((((UInt8.toNat (List.getD (Array.toList (ByteArray.data s)) (Int.toNat ((i : Nat) : Int)) (0 : UInt8))) : Nat) : Int) - (48 : Int))))))))) ≤ (400000 : Nat)) ∧ ((Dig (unu (u32s (dg (0 : Nat))))) ∧ (Dig (unu (u32s (dg (Int.toNat (IntKind.wrap IntKind.u64 (IntKind.wrap IntKind.u8 ((((UInt8.toNat (List.getD (Array.toList (ByteArray.data s)) (Int.toNat ((i : Nat) : Int)) (0 : UInt8))) : Nat) : Int) - (48 : Int)))))))))))))) ∧ (True ∧ ((Bool.true = Bool.true) ∧ (True ∧ (True ∧ (True ∧ (∃ (y : PS), (∃ (kp : (List (Option Nat))), (((lp_parLoop.match_1 (fun (p : PS) => Nat) y (fun (i_1 : Nat) => ((ByteArray.size s) - i_1)) (fun (ws : (List Nat)) => (fun (i_1 : Nat) => ((ByteArray.size s) - i_1)))) < ((ByteArray.size s) - i)) ∧ ((lp_parLoop.match_1 (fun (p : PS) => Prop) y (fun (i_1 : Nat) => ((DecJ (bys s)) ∧ ((i_1 = (0 : Nat)) ∨ ((i_1 = (1 : Nat)) ∧ ((List.getD (bys s) (0 : Nat) (0 : Nat)) = (45 : Nat)))))) (fun (ws : (List Nat)) => (fun (i_1 : Nat) => ((DecJ (bys s)) ∧ ((((0 : Nat) < i_1) ∧ (i_1 ≤ (ByteArray.size s))) ∧ (((Dig ws) ∧ ((nv ws) = (dvl (decT (bys s) i_1)))) ∧ ((List.length ws) ≤ ((2 : Nat) * i_1)))))))) ∧ (viewAll kp (selEnv (lp_parLoop.match_1 (fun (p : PS) => Env) y (fun (i_1 : Nat) => [(Prod.mk (0 : Nat) (D.v (Value.string s))), (Prod.mk (2 : Nat) (D.ptr (0 : Nat) (0 : Nat))), (Prod.mk (4 : Nat) (D.v (Value.slice (Option.none) (0 : Nat) (0 : Nat)))), (Prod.mk (5 : Nat) (D.v (Value.int IntKind.i64 ((i_1 : Nat) : Int))))]) (fun (ws : (List Nat)) => (fun (i_1 : Nat) => [(Prod.mk (0 : Nat) (D.v (Value.string s))), (Prod.mk (2 : Nat) (D.ptr (0 : Nat) (0 : Nat))), (Prod.mk (4 : Nat) (D.ro (List.length ws) (u32s ws))), (Prod.mk (5 : Nat) (D.v (Value.int IntKind.i64 ((i_1 : Nat) : Int))))]))) [(Prod.mk (5 : Nat) (D.v (Value.int IntKind.i64 (IntKind.wrap IntKind.i64 (((i : Nat) : Int) + (1 : Int)))))), (Prod.mk (19 : Nat) (D.v (Value.int IntKind.i64 (IntKind.wrap IntKind.i64 (((i : Nat) : Int) + (1 : Int)))))), (Prod.mk (18 : Nat) (D.v (Value.int IntKind.i64 ((i : Nat) : Int)))), (Prod.mk (4 : Nat) (D.ro (List.length (plusL (unu (u32s (dg (0 : Nat)))) (unu (u32s (dg (Int.toNat (IntKind.wrap IntKind.u64 (IntKind.wrap IntKind.u8 ((((UInt8.toNat (List.getD (Array.toList (ByteArray.data s)) (Int.toNat ((i : Nat) : Int)) (0 : UInt8))) : Nat) : Int) - (48 : Int)))))))))) (u32s (plusL (unu (u32s (dg (0 : Nat)))) (unu (u32s (dg (Int.toNat (IntKind.wrap IntKind.u64 (IntKind.wrap IntKind.u8 ((((UInt8.toNat (List.getD (Array.toList (ByteArray.data s)) (Int.toNat ((i : Nat) : Int)) (0 : UInt8))) : Nat) : Int) - (48 : Int)))))))))))), (Prod.mk (33 : Nat) (D.ro (List.length (plusL (unu (u32s (dg (0 : Nat)))) (unu (u32s (dg (Int.toNat (IntKind.wrap IntKind.u64 (IntKind.wrap IntKind.u8 ((((UInt8.toNat (List.getD (Array.toList (ByteArray.data s)) (Int.toNat ((i : Nat) : Int)) (0 : UInt8))) : Nat) : Int) - (48 : Int)))))))))) (u32s (plusL (unu (u32s (dg (0 : Nat)))) (unu (u32s (dg (Int.toNat (IntKind.wrap IntKind.u64 (IntKind.wrap IntKind.u8 ((((UInt8.toNat (List.getD (Array.toList (ByteArray.data s)) (Int.toNat ((i : Nat) : Int)) (0 : UInt8))) : Nat) : Int) - (48 : Int)))))))))))), (Prod.mk (32 : Nat) (D.ro (List.length (dg (Int.toNat (IntKind.wrap IntKind.u64 (IntKind.wrap IntKind.u8 ((((UInt8.toNat (List.getD (Array.toList (ByteArray.data s)) (Int.toNat ((i : Nat) : Int)) (0 : UInt8))) : Nat) : Int) - (48 : Int))))))) (u32s (dg (Int.toNat (IntKind.wrap IntKind.u64 (IntKind.wrap IntKind.u8 ((((UInt8.toNat (List.getD (Array.toList (ByteArray.data s)) (Int.toNat ((i : Nat) : Int)) (0 : UInt8))) : Nat) : Int) - (48 : Int))))))))), (Prod.mk (31 : Nat) (D.v (Value.int IntKind.u64 (IntKind.wrap IntKind.u64 (IntKind.wrap IntKind.u8 ((((UInt8.toNat (List.getD (Array.toList (ByteArray.data s)) (Int.toNat ((i : Nat) : Int)) (0 : UInt8))) : Nat) : Int) - (48 : Int))))))), (Prod.mk (30 : Nat) (D.v (Value.int IntKind.u8 (IntKind.wrap IntKind.u8 ((((UInt8.toNat (List.getD (Array.toList (ByteArray.data s)) (Int.toNat ((i : Nat) : Int)) (0 : UInt8))) : Nat) : Int) - (48 : Int)))))), (Prod.mk (29 : Nat) (D.v (Value.int IntKind.u8 (((UInt8.toNat (List.getD (Array.toList (ByteArray.data s)) (Int.toNat ((i : Nat) : Int)) (0 : UInt8))) : Nat) : Int)))), (Prod.mk (28 : Nat) (D.v (Value.int IntKind.i64 ((i : Nat) : Int)))), (Prod.mk (27 : Nat) (D.v (Value.string s))), (Prod.mk (26 : Nat) (D.ro (0 : Nat) (u32s (dg (0 : Nat))))), (Prod.mk (25 : Nat) (D.sl (1 : Nat) (0 : Nat) (1 : Nat) (Cap.toEnd (1 : Nat)))), (Prod.mk (24 : Nat) (D.v (Value.slice (Option.none) (0 : Nat) (0 : Nat)))), (Prod.mk (23 : Nat) (D.v (Value.bool ((((UInt8.toNat (List.getD (Array.toList (ByteArray.data s)) (Int.toNat ((i : Nat) : Int)) (0 : UInt8))) : Nat) : Int) != (45 : Int))))), (Prod.mk (22 : Nat) (D.v (Value.int IntKind.u8 (((UInt8.toNat (List.getD (Array.toList (ByteArray.data s)) (Int.toNat ((i : Nat) : Int)) (0 : UInt8))) : Nat) : Int)))), (Prod.mk (21 : Nat) (D.v (Value.int IntKind.i64 ((i : Nat) : Int)))), (Prod.mk (20 : Nat) (D.v (Value.string s))), (Prod.mk (17 : Nat) (D.v (Value.bool (Decidable.decide (((i : Nat) : Int) < (((ByteArray.size s) : Nat) : Int)))))), (Prod.mk (16 : Nat) (D.v (Value.int IntKind.i64 (((ByteArray.size s) : Nat) : Int)))), (Prod.mk (15 : Nat) (D.v (Value.string s))), (Prod.mk (14 : Nat) (D.v (Value.int IntKind.i64 ((i : Nat) : Int)))), (Prod.mk (0 : Nat) (D.v (Value.string s))), (Prod.mk (2 : Nat) (D.ptr (0 : Nat) (0 : Nat))), (Prod.mk (4 : Nat) (D.v (Value.slice (Option.none) (0 : Nat) (0 : Nat)))), (Prod.mk (5 : Nat) (D.v (Value.int IntKind.i64 ((i : Nat) : Int))))]) [(Option.some (Blk.mk (24 : Nat) [(D.v (Value.bool Bool.false)), (D.v (Value.slice (Option.none) (0 : Nat) (0 : Nat)))] Bool.true)), (Option.none)] (lp_parLoop.match_1 (fun (p : PS) => Env) y (fun (i_1 : Nat) => [(Prod.mk (0 : Nat) (D.v (Value.string s))), (Prod.mk (2 : Nat) (D.ptr (0 : Nat) (0 : Nat))), (Prod.mk (4 : Nat) (D.v (Value.slice (Option.none) (0 : Nat) (0 : Nat)))), (Prod.mk (5 : Nat) (D.v (Value.int IntKind.i64 ((i_1 : Nat) : Int))))]) (fun (ws : (List Nat)) => (fun (i_1 : Nat) => [(Prod.mk (0 : Nat) (D.v (Value.string s))), (Prod.mk (2 : Nat) (D.ptr (0 : Nat) (0 : Nat))), (Prod.mk (4 : Nat) (D.ro (List.length ws) (u32s ws))), (Prod.mk (5 : Nat) (D.v (Value.int IntKind.i64 ((i_1 : Nat) : Int))))]))) (lp_parLoop.match_1 (fun (p : PS) => Heap) y (fun (i_1 : Nat) => [d_pb]) (fun (ws : (List Nat)) => (fun (i_1 : Nat) => [d_pb]))))))))))))))))))))))) (True ∧ (True ∧ (True ∧ (∃ (y : PS), (∃ (kp : (List (Option Nat))), (((lp_parLoop.match_1 (fun (p : PS) => Nat) y (fun (i_1 : Nat) => ((ByteArray.size s) - i_1)) (fun (ws : (List Nat)) => (fun (i_1 : Nat) => ((ByteArray.size s) - i_1)))) < ((ByteArray.size s) - i)) ∧ ((lp_parLoop.match_1 (fun (p : PS) => Prop) y (fun (i_1 : Nat) => ((DecJ (bys s)) ∧ ((i_1 = (0 : Nat)) ∨ ((i_1 = (1 : Nat)) ∧ ((List.getD (bys s) (0 : Nat) (0 : Nat)) = (45 : Nat)))))) (fun (ws : (List Nat)) => (fun (i_1 : Nat) => ((DecJ (bys s)) ∧ ((((0 : Nat) < i_1) ∧ (i_1 ≤ (ByteArray.size s))) ∧ (((Dig ws) ∧ ((nv ws) = (dvl (decT (bys s) i_1)))) ∧ ((List.length ws) ≤ ((2 : Nat) * i_1)))))))) ∧ (viewAll kp (selEnv (lp_parLoop.match_1 (fun (p : PS) => Env) y (fun (i_1 : Nat) => [(Prod.mk (0 : Nat) (D.v (Value.string s))), (Prod.mk (2 : Nat) (D.ptr (0 : Nat) (0 : Nat))), (Prod.mk (4 : Nat) (D.v (Value.slice (Option.none) (0 : Nat) (0 : Nat)))), (Prod.mk (5 : Nat) (D.v (Value.int IntKind.i64 ((i_1 : Nat) : Int))))]) (fun (ws : (List Nat)) => (fun (i_1 : Nat) => [(Prod.mk (0 : Nat) (D.v (Value.string s))), (Prod.mk (2 : Nat) (D.ptr (0 : Nat) (0 : Nat))), (Prod.mk (4 : Nat) (D.ro (List.length ws) (u32s ws))), (Prod.mk (5 : Nat) (D.v (Value.int IntKind.i64 ((i_1 : Nat) : Int))))]))) [(Prod.mk (5 : Nat) (D.v (Value.int IntKind.i64 (IntKind.wrap IntKind.i64 (((i : Nat) : Int) + (1 : Int)))))), (Prod.mk (19 : Nat) (D.v (Value.int IntKind.i64 (IntKind.wrap IntKind.i64 (((i : Nat) : Int) + (1 : Int)))))), (Prod.mk (18 : Nat) (D.v (Value.int IntKind.i64 ((i : Nat) : Int)))), (Prod.mk (23 : Nat) (D.v (Value.bool ((((UInt8.toNat (List.getD (Array.toList (ByteArray.data s)) (Int.toNat ((i : Nat) : Int)) (0 : UInt8))) : Nat) : Int) != (45 : Int))))), (Prod.mk (22 : Nat) (D.v (Value.int IntKind.u8 (((UInt8.toNat (List.getD (Array.toList (ByteArray.data s)) (Int.toNat ((i : Nat) : Int)) (0 : UInt8))) : Nat) : Int)))), (Prod.mk (21 : Nat) (D.v (Value.int IntKind.i64 ((i : Nat) : Int)))), (Prod.mk (20 : Nat) (D.v (Value.string s))), (Prod.mk (17 : Nat) (D.v (Value.bool (Decidable.decide (((i : Nat) : Int) < (((ByteArray.size s) : Nat) : Int)))))), (Prod.mk (16 : Nat) (D.v (Value.int IntKind.i64 (((ByteArray.size s) : Nat) : Int)))), (Prod.mk (15 : Nat) (D.v (Value.string s))), (Prod.mk (14 : Nat) (D.v (Value.int IntKind.i64 ((i : Nat) : Int)))), (Prod.mk (0 : Nat) (D.v (Value.string s))), (Prod.mk (2 : Nat) (D.ptr (0 : Nat) (0 : Nat))), (Prod.mk (4 : Nat) (D.v (Value.slice (Option.none) (0 : Nat) (0 : Nat)))), (Prod.mk (5 : Nat) (D.v (Value.int IntKind.i64 ((i : Nat) : Int))))]) [(Option.some (Blk.mk (24 : Nat) [(D.v (Value.bool Bool.false)), (D.v (Value.slice (Option.none) (0 : Nat) (0 : Nat)))] Bool.true))] (lp_parLoop.match_1 (fun (p : PS) => Env) y (fun (i_1 : Nat) => [(Prod.mk (0 : Nat) (D.v (Value.string s))), (Prod.mk (2 : Nat) (D.ptr (0 : Nat) (0 : Nat))), (Prod.mk (4 : Nat) (D.v (Value.slice (Option.none) (0 : Nat) (0 : Nat)))), (Prod.mk (5 : Nat) (D.v (Value.int IntKind.i64 ((i_1 : Nat) : Int))))]) (fun (ws : (List Nat)) => (fun (i_1 : Nat) => [(Prod.mk (0 : Nat) (D.v (Value.string s))), (Prod.mk (2 : Nat) (D.ptr (0 : Nat) (0 : Nat))), (Prod.mk (4 : Nat) (D.ro (List.length ws) (u32s ws))), (Prod.mk (5 : Nat) (D.v (Value.int IntKind.i64 ((i_1 : Nat) : Int))))]))) (lp_parLoop.match_1 (fun (p : PS) => Heap) y (fun (i_1 : Nat) => [d_pb]) (fun (ws : (List Nat)) => (fun (i_1 : Nat) => [d_pb])))))))))))))))) (∃ (r : (List Nat)), (∃ (kp : (List (Option Nat))), ((((Dig r) ∧ ((nv r) = (dvl (decT (bys s) (ByteArray.size s))))) ∧ ((List.length r) ≤ (8000 : Nat))) ∧ (((Exit.exit (0 : Nat)) = (Exit.exit (0 : Nat))) ∧ (viewAll kp [(Prod.mk (0 : Nat) (D.v (Value.string s))), (Prod.mk (2 : Nat) (D.ptr (0 : Nat) (0 : Nat))), (Prod.mk (4 : Nat) (D.v (Value.slice (Option.none) (0 : Nat) (0 : Nat))))] [(Option.some (Blk.mk (24 : Nat) [(D.v (Value.bool Bool.false)), (D.v (Value.slice (Option.none) (0 : Nat) (0 : Nat)))] Bool.true))] (Prod.fst (Prod.snd ((fun (ws : (List Nat)) => (Prod.mk (Exit.exit (0 : Nat)) (Prod.mk [(Prod.mk (0 : Nat) (D.v (Value.string s))), (Prod.mk (2 : Nat) (D.ptr (0 : Nat) (0 : Nat))), (Prod.mk (4 : Nat) (D.ro (List.length ws) (u32s ws)))] [d_pb]))) r))) (Prod.snd (Prod.snd ((fun (ws : (List Nat)) => (Prod.mk (Exit.exit (0 : Nat)) (Prod.mk [(Prod.mk (0 : Nat) (D.v (Value.string s))), (Prod.mk (2 : Nat) (D.ptr (0 : Nat) (0 : Nat))), (Prod.mk (4 : Nat) (D.ro (List.length ws) (u32s ws)))] [d_pb]))) r)))))))))))))) (by kernel_rfl) ?_
    simp only [true_and, and_true, and_self, IsInt_lit, IsBool_lit, IsStr_lit, Bool.not_eq_true', Bool.not_eq_false', Bool.not_true, Bool.not_false, Int.reduceLE, Int.reduceLT, Int.reduceNeg, Nat.le_refl, Int.le_refl, Nat.reduceLT, Nat.reduceLeDiff, Nat.reduceEqDiff, D.v.injEq, D.tup.injEq, D.agg.injEq, D.ro.injEq, List.cons.injEq, Value.int.injEq, Value.bool.injEq, pcond_true, pcond_false, NamelessL, Nameless, Nat.reduceMul, Nat.reduceAdd, Nat.zero_add, Int.toNat_natCast, bys_get, u10, unu_u32s, dg_zero]
    have hT : decT (bys s) i = [] := by
      rcases hi with h | ⟨h, h2⟩
      · subst h; rfl
      · subst h
        rw [decT_succ (by rw [hsz]; have := hD.some; omega), if_pos h2]; rfl
    have hlen := hD.len
    refine pcond_intro (fun h => ?_) (fun h => ?_)
    · simp only [decide_eq_true_eq] at h
      have hc := hD.dig i (by omega)
      have hTs := decT_succ (L := bys s) (i := i) (by omega)
      rw [hT] at hTs
      have e3 : IntKind.i64.wrap ((i : Int) + 1) = ((i + 1 : Nat) : Int) := by rw [wrap_i64_of (by omega) (by omega)]; omega
      simp only [e3]
      refine ⟨⟨by omega, by omega⟩, pcond_intro (fun h1 => ?_) (fun h1 => ?_)⟩
      · have hne : (bys s).getD i 0 ≠ 45 := fun k => by rw [k] at h1; simp at h1
        rw [if_neg hne] at hTs
        have hcd : 48 ≤ (bys s).getD i 0 ∧ (bys s).getD i 0 ≤ 57 := by
          rcases hc with hc | hc
          · exact absurd hc.2 hne
          · simpa [dig1] using hc
        generalize (bys s).getD i 0 = c at *
        have ec : IntKind.u64.wrap (IntKind.u8.wrap ((c : Int) - 48)) = ((c - 48 : Nat) : Int) := by rw [Go.VD.wrap_u8, wrap_u64]; omega
        have hdl : (dg (c - 48)).length ≤ 1 := dg_length_le (by simp; omega)
        obtain ⟨hn, hdp⟩ := nv_plusL Dig.nil (dg_dig (c - 48))
        have hpl := plusL_len [] (dg (c - 48))
        have hpm : plusM [] (dg (c - 48)) ≤ 1 := by unfold plusM; simp; omega
        simp only [ec, Int.toNat_natCast, unu_u32s]
        refine ⟨⟨rfl, Dig.nil, d10⟩, ⟨by omega, by omega⟩, ⟨by omega, by omega⟩, ⟨by omega, Dig.nil, dg_dig _⟩, .mid (plusL [] (dg (c - 48))) (i + 1), [some 0], by simp only; omega, ⟨hD, ⟨by omega, by omega⟩, ⟨hdp, ?_⟩, by omega⟩, ?_⟩
        · rw [hn, hTs, nv_dg]; simp [nv, dvl]
        · refine of_eq (B := ((Bool.true = Bool.true) ∧ (((((Option.some (Blk.mk (24 : Nat) [(D.v (Value.bool Bool.false)), (D.v (Value.slice (Option.none) (0 : Nat) (0 : Nat)))] Bool.true)) = (Option.some (Blk.mk (24 : Nat) [(D.v (Value.bool Bool.false)), (D.v (Value.slice (Option.none) (0 : Nat) (0 : Nat)))] Bool.true))) ∧ (NamelessL [(D.v (Value.bool Bool.false)), (D.v (Value.slice (Option.none) (0 : Nat) (0 : Nat)))])) ∧ (([] : List (Option Blk)) = ([] : List (Option Blk)))) ∧ ((True ∧ ((D.v (Value.string s)) = (D.v (Value.string s)))) ∧ ((True ∧ ((D.ptr (0 : Nat) (0 : Nat)) = (D.ptr (0 : Nat) (0 : Nat)))) ∧ ((True ∧ ((D.ro (List.length (plusL ([] : List Nat) (dg (c - (48 : Nat))))) (u32s (plusL ([] : List Nat) (dg (c - (48 : Nat)))))) = (D.ro (List.length (plusL ([] : List Nat) (dg (c - (48 : Nat))))) (u32s (plusL ([] : List Nat) (dg (c - (48 : Nat)))))))) ∧ ((True ∧ ((D.v (Value.int IntKind.i64 (((i + (1 : Nat)) : Nat) : Int))) = (D.v (Value.int IntKind.i64 (((i + (1 : Nat)) : Nat) : Int))))) ∧ True))))))) (by kernel_rfl) ?_
          simp [NamelessL, Nameless]
      · have he : (bys s).getD i 0 = 45 := by simp only [bne_eq_false_iff_eq] at h1; omega
        have hi0 : i = 0 := by
          rcases hc with hc | hc
          · exact hc.1
          · rw [he] at hc; simp [dig1] at hc
        subst hi0
        refine ⟨.first 1, [some 0], by simp only; omega, ⟨hD, .inr ⟨rfl, he⟩⟩, ?_⟩
        refine of_eq (B := ((Bool.true = Bool.true) ∧ (((((Option.some (Blk.mk (24 : Nat) [(D.v (Value.bool Bool.false)), (D.v (Value.slice (Option.none) (0 : Nat) (0 : Nat)))] Bool.true)) = (Option.some (Blk.mk (24 : Nat) [(D.v (Value.bool Bool.false)), (D.v (Value.slice (Option.none) (0 : Nat) (0 : Nat)))] Bool.true))) ∧ (NamelessL [(D.v (Value.bool Bool.false)), (D.v (Value.slice (Option.none) (0 : Nat) (0 : Nat)))])) ∧ (([] : List (Option Blk)) = ([] : List (Option Blk)))) ∧ ((True ∧ ((D.v (Value.string s)) = (D.v (Value.string s)))) ∧ ((True ∧ ((D.ptr (0 : Nat) (0 : Nat)) = (D.ptr (0 : Nat) (0 : Nat)))) ∧ ((True ∧ ((D.v (Value.slice (Option.none) (0 : Nat) (0 : Nat))) = (D.v (Value.slice (Option.none) (0 : Nat) (0 : Nat))))) ∧ ((True ∧ ((D.v (Value.int IntKind.i64 (1 : Int))) = (D.v (Value.int IntKind.i64 (1 : Int))))) ∧ True))))))) (by kernel_rfl) ?_
        simp [NamelessL, Nameless]
    · simp only [decide_eq_false_iff_not] at h
      have h1 := hD.some
      rcases hi with h2 | ⟨h2, h3⟩
      · omega
      · have := hD.two h3; omega
  | mid ws i =>
    obtain ⟨hD, ⟨hi0, hi⟩, ⟨hw, hv⟩, hwl⟩ := hJ
    refine of_eq (B := (True ∧ (True ∧ (True ∧ (True ∧ (pcond (Decidable.decide (((i : Nat) : Int) < (((ByteArray.size s) : Nat) : Int))) (True ∧ (True ∧ ((((0 : Int) ≤ ((i : Nat) : Int)) ∧ (((i : Nat) : Int) < (((ByteArray.size s) : Nat) : Int))) ∧ (True ∧ (pcond ((((UInt8.toNat (List.getD (Array.toList (ByteArray.data s)) (Int.toNat ((i : Nat) : Int)) (0 : UInt8))) : Nat) : Int) != (45 : Int)) (True ∧ ((((1 : Nat) ≤ (16777216 : Nat)) ∧ ((1 : Nat) ≤ (9223372036854775807 : Nat))) ∧ (((True ∧ (((NamelessL [(D.v (Value.int IntKind.u32 (10 : Int)))]) ∧ (((0 : Nat) < (1 : Nat)) ∧ ((1 : Nat) ≤ (1 : Nat)))) ∧ True)) ∧ ((([(D.v (Value.int IntKind.u32 (10 : Int)))] = (u32s (unu [(D.v (Value.int IntKind.u32 (10 : Int)))]))) ∧ ((1 : Nat) = (1 : Nat))) ∧ ((((u32s ws) = (u32s (unu (u32s ws)))) ∧ ((List.length ws) = (List.length (unu (u32s ws))))) ∧ (((List.length (unu (u32s ws))) ≤ (400000 : Nat)) ∧ (((1 : Nat) ≤ (400000 : Nat)) ∧ ((Dig (unu (u32s ws))) ∧ (Dig (unu [(D.v (Value.int IntKind.u32 (10 : Int)))])))))))) ∧ (True ∧ (True ∧ ((((0 : Int) ≤ ((i : Nat) : Int)) ∧ (((i : Nat) : Int) < (((ByteArray.size s) : Nat) : Int))) ∧ (True ∧ (True ∧ ((((0 : Int) ≤ (IntKind.wrap IntKind.u64 (IntKind.wrap IntKind.u8 ((((UInt8.toNat (List.getD (Array.toList (ByteArray.data s)) (Int.toNat ((i : Nat) : Int)) (0 : UInt8))) : Nat) : Int) - (48 : Int))))) ∧ ((IntKind.wrap IntKind.u64 (IntKind.wrap IntKind.u8 ((((UInt8.toNat (List.getD (Array.toList (ByteArray.data s)) (Int.toNat ((i : Nat) : Int)) (0 : UInt8))) : Nat) : Int) - (48 : Int)))) < (18446744073709551616 : Int))) ∧ (((((u32s (dg (Int.toNat (IntKind.wrap IntKind.u64 (IntKind.wrap IntKind.u8 ((((UInt8.toNat (List.getD (Array.toList (ByteArray.data s)) (Int.toNat ((i : Nat) : Int)) (0 : UInt8))) : Nat) : Int) - (48 : Int))))))) = (u32s (unu (u32s (dg (Int.toNat (IntKind.wrap IntKind.u64 (IntKind.wrap IntKind.u8 ((((UInt8.toNat (List.getD (Array.toList (ByteArray.data s)) (Int.toNat ((i : Nat) : Int)) (0 : UInt8))) : Nat) : Int) - (48 : Int)))))))))) ∧ ((List.length (dg (Int.toNat (IntKind.wrap IntKind.u64 (IntKind.wrap IntKind.u8 ((((UInt8.toNat (List.getD (Array.toList (ByteArray.data s)) (Int.toNat ((i : Nat) : Int)) (0 : UInt8))) : Nat) : Int) - (48 : Int))))))) = (List.length (unu (u32s (dg (Int.toNat (IntKind.wrap IntKind.u64 (IntKind.wrap IntKind.u8 ((((UInt8.toNat (List.getD (Array.toList (ByteArray.data s)) (Int.toNat ((i : Nat) : Int)) (0 : UInt8))) : Nat) : Int) - (48 : Int))))))))))) ∧ ((((u32s (dg ((nv (unu (u32s ws))) * (10 : Nat)))) = (u32s (unu (u32s (dg ((nv (unu (u32s ws))) * (10 : Nat))))))) ∧ ((List.length (dg ((nv (unu (u32s ws))) * (10 : Nat)))) = (List.length (unu (u32s (dg ((nv (unu (u32s ws))) * (10 : Nat)))))))) ∧ (((List.length (unu (u32s (dg ((nv (unu (u32s ws))) * (10 : Nat)))))) ≤ (400000 : Nat)) ∧ (((List.length (unu (u32s (dg (Int.toNat (IntKind.wrap IntKind.u64 (IntKind.wrap IntKind.u8 ((((UInt8.toNat (List.getD (Array.toList (ByteArray.data s)) (Int.toNat ((i : Nat) : Int)) (0 : UInt8))) : Nat) : Int) - (48 : Int))))))))) ≤ (400000 : Nat)) ∧ ((Dig (unu (u32s (dg ((nv (unu (u32s ws))) * (10 : Nat)))))) ∧ (Dig (unu (u32s (dg (Int.toNat (IntKind.wrap IntKind.u64 (IntKind.wrap IntKind.u8 ((((UInt8.toNat (List.getD (Array.toList (ByteArray.data s)) (Int.toNat ((i : Nat) : Int)) (0 : UInt8))) : Nat) : Int) - (48 : Int)))))))))))))) ∧ (True ∧ ((Bool.true = Bool.true) ∧ (True ∧ (True ∧ (True ∧ (∃ (y : PS), (∃ (kp : (List (Option Nat))), (((lp_parLoop.match_1 (fun (p : PS) => Nat) y (fun (i_1 : Nat) => ((ByteArray.size s) - i_1)) (fun (ws_1 : (List Nat)) => (fun (i_1 : Nat) => ((ByteArray.size s) - i_1)))) < ((ByteArray.size s) - i)) ∧ ((lp_parLoop.match_1 (fun (p : PS) => Prop) y (fun (i_1 : Nat) => ((DecJ (bys s)) ∧ ((i_1 = (0 : Nat)) ∨ ((i_1 = (1 : Nat)) ∧ ((List.getD (bys s) (0 : Nat) (0 : Nat)) = (45 : Nat)))))) (fun (ws_1 : (List Nat)) => (fun (i_1 : Nat) => ((DecJ (bys s)) ∧ ((((0 : Nat) < i_1) ∧ (i_1 ≤ (ByteArray.size s))) ∧ (((Dig ws_1) ∧ ((nv ws_1) = (dvl (decT (bys s) i_1)))) ∧ ((List.length ws_1) ≤ ((2 : Nat) * i_1)))))))) ∧ (viewAll kp (selEnv (lp_parLoop.match_1 (fun (p : PS) => Env) y (fun (i_1 : Nat) => [(Prod.mk (0 : Nat) (D.v (Value.string s))), (Prod.mk (2 : Nat) (D.ptr (0 : Nat) (0 : Nat))), (Prod.mk (4 : Nat) (D.v (Value.slice (Option.none) (0 : Nat) (0 : Nat)))), (Prod.mk (5 : Nat) (D.v (Value.int IntKind.i64 ((i_1 : Nat) : Int))))]) (fun (ws_1 : (List Nat)) => (fun (i_1 : Nat) => [(Prod.mk (0 : Nat) (D.v (Value.string s))), (Prod.mk (2 : Nat) (D.ptr (0 : Nat) (0 : Nat))), (Prod.mk (4 : Nat) (D.ro (List.length ws_1) (u32s ws_1))), (Prod.mk (5 : Nat) (D.v (Value.int IntKind.i64 ((i_1 : Nat) : Int))))]))) [(Prod.mk (5 : Nat) (D.v (Value.int IntKind.i64 (IntKind.wrap IntKind.i64 (((i : Nat) : Int) + (1 : Int)))))), (Prod.mk (19 : Nat) (D.v (Value.int IntKind.i64 (IntKind.wrap IntKind.i64 (((i : Nat) : Int) + (1 : Int)))))), (Prod.mk (18 : Nat) (D.v (Value.int IntKind.i64 ((i : Nat) : Int)))), (Prod.mk (4 : Nat) (D.ro (List.length (plusL (unu (u32s (dg ((nv (unu (u32s ws))) * (10 : Nat))))) (unu (u32s (dg (Int.toNat (IntKind.wrap IntKind.u64 (IntKind.wrap IntKind.u8 ((((UInt8.toNat (List.getD (Array.toList (ByteArray.data s)) (Int.toNat ((i : Nat) : Int)) (0 : UInt8))) : Nat) : Int) - (48 : Int)))))))))) (u32s (plusL (unu (u32s (dg ((nv (unu (u32s ws))) * (10 : Nat))))) (unu (u32s (dg (Int.toNat (IntKind.wrap IntKind.u64 (IntKind.wrap IntKind.u8 ((((UInt8.toNat (List.getD (Array.toList (ByteArray.data s)) (Int.toNat ((i : Nat) : Int)) (0 : UInt8))) : Nat) : Int) - (48 : Int)))))))))))), (Prod.mk (33 : Nat) (D.ro (List.length (plusL (unu (u32s (dg ((nv (unu (u32s ws))) * (10 : Nat))))) (unu (u32s (dg (Int.toNat (IntKind.wrap IntKind.u64 (IntKind.wrap IntKind.u8 ((((UInt8.toNat (List.getD (Array.toList (ByteArray.data s)) (Int.toNat ((i : Nat) : Int)) (0 : UInt8))) : Nat) : Int) - (48 : Int)))))))))) (u32s (plusL (unu (u32s (dg ((nv (unu (u32s ws))) * (10 : Nat))))) (unu (u32s (dg (Int.toNat (IntKind.wrap IntKind.u64 (IntKind.wrap IntKind.u8 ((((UInt8.toNat (List.getD (Array.toList (ByteArray.data s)) (Int.toNat ((i : Nat) : Int)) (0 : UInt8))) : Nat) : Int) - (48 : Int)))))))))))), (Prod.mk (32 : Nat) (D.ro (List.length (dg (Int.toNat (IntKind.wrap IntKind.u64 (IntKind.wrap IntKind.u8 ((((UInt8.toNat (List.getD (Array.toList (ByteArray.data s)) (Int.toNat ((i : Nat) : Int)) (0 : UInt8))) : Nat) : Int) - (48 : Int))))))) (u32s (dg (Int.toNat (IntKind.wrap IntKind.u64 (IntKind.wrap IntKind.u8 ((((UInt8.toNat (List.getD (Array.toList (ByteArray.data s)) (Int.toNat ((i : Nat) : Int)) (0 : UInt8))) : Nat) : Int) - (48 : Int))))))))), (Prod.mk (31 : Nat) (D.v (Value.int IntKind.u64 (IntKind.wrap IntKind.u64 (IntKind.wrap IntKind.u8 ((((UInt8.toNat (List.getD (Array.toList (ByteArray.data s)) (Int.toNat ((i : Nat) : Int)) (0 : UInt8))) : Nat) : Int) - (48 : Int))))))), (Prod.mk (30 : Nat) (D.v (Value.int IntKind.u8 (IntKind.wrap IntKind.u8 ((((UInt8.toNat (List.getD (Array.toList (ByteArray.data s)) (Int.toNat ((i : Nat) : Int)) (0 : UInt8))) : Nat) : Int) - (48 : Int)))))), (Prod.mk (29 : Nat) (D.v (Value.int IntKind.u8 (((UInt8.toNat (List.getD (Array.toList (ByteArray.data s)) (Int.toNat ((i : Nat) : Int)) (0 : UInt8))) : Nat) : Int)))), (Prod.mk (28 : Nat) (D.v (Value.int IntKind.i64 ((i : Nat) : Int)))), (Prod.mk (27 : Nat) (D.v (Value.string s))), (Prod.mk (26 : Nat) (D.ro (List.length (dg ((nv (unu (u32s ws))) * (10 : Nat)))) (u32s (dg ((nv (unu (u32s ws))) * (10 : Nat)))))), (Prod.mk (25 : Nat) (D.sl (1 : Nat) (0 : Nat) (1 : Nat) (Cap.toEnd (1 : Nat)))), (Prod.mk (24 : Nat) (D.ro (List.length ws) (u32s ws))), (Prod.mk (23 : Nat) (D.v (Value.bool ((((UInt8.toNat (List.getD (Array.toList (ByteArray.data s)) (Int.toNat ((i : Nat) : Int)) (0 : UInt8))) : Nat) : Int) != (45 : Int))))), (Prod.mk (22 : Nat) (D.v (Value.int IntKind.u8 (((UInt8.toNat (List.getD (Array.toList (ByteArray.data s)) (Int.toNat ((i : Nat) : Int)) (0 : UInt8))) : Nat) : Int)))), (Prod.mk (21 : Nat) (D.v (Value.int IntKind.i64 ((i : Nat) : Int)))), (Prod.mk (20 : Nat) (D.v (Value.string s))), (Prod.mk (17 : Nat) (D.v (Value.bool (Decidable.decide (((i : Nat) : Int) < (((ByteArray.size s) : Nat) : Int)))))), (Prod.mk (16 : Nat) (D.v (Value.int IntKind.i64 (((ByteArray.size s) : Nat) : Int)))), (Prod.mk (15 : Nat) (D.v (Value.string s))), (Prod.mk (14 : Nat) (D.v (Value.int IntKind.i64 ((i : Nat) : Int)))), (Prod.mk (0 : Nat) (D.v (Value.string s))), (Prod.mk (2 : Nat) (D.ptr (0 : Nat) (0 : Nat))), (Prod.mk (4 : Nat) (D.ro (List.length ws) (u32s ws))), (Prod.mk (5 : Nat) (D.v (Value.int IntKind.i64 ((i : Nat) : Int))))]) [(Option.some (Blk.mk (24 : Nat) [(D.v (Value.bool Bool.false)), (D.v (Value.slice (Option.none) (0 : Nat) (0 : Nat)))] Bool.true)), (Option.none)] (lp_parLoop.match_1 (fun (p : PS) => Env) y (fun (i_1 : Nat) => [(Prod.mk (0 : Nat) (D.v (Value.string s))), (Prod.mk (2 : Nat) (D.ptr (0 : Nat) (0 : Nat))), (Prod.mk (4 : Nat) (D.v (Value.slice (Option.none) (0 : Nat) (0 : Nat)))), (Prod.mk (5 : Nat) (D.v (Value.int IntKind.i64 ((i_1 : Nat) : Int))))]) (fun (ws_1 : (List Nat)) => (fun (i_1 : Nat) => [(Prod.mk (0 : Nat) (D.v (Value.string s))), (Prod.mk (2 : Nat) (D.ptr (0 : Nat) (0 : Nat))), (Prod.mk (4 : Nat) (D.ro (List.length ws_1) (u32s ws_1))), (Prod.mk (5 : Nat) (D.v (Value.int IntKind.i64 ((i_1 : Nat) : Int))))]))) (lp_parLoop.match_1 (fun (p : PS) => Heap) y (fun (i_1 : Nat) => [d_pb]) (fun (ws_1 : (List Nat)) => (fun (i_1 : Nat) => [d_pb]))))))))))))))))))))))) (True ∧ (True ∧ (True ∧ (∃ (y : PS), (∃ (kp : (List (Option Nat))), (((lp_parLoop.match_1 (fun (p : PS) => Nat) y (fun (i_1 : Nat) => ((ByteArray.size s) - i_1)) (fun (ws_1 : (List Nat)) => (fun (i_1 : Nat) => ((ByteArray.size s) - i_1)))) < ((ByteArray.size s) - i)) ∧ ((lp_parLoop.match_1 (fun (p : PS) => Prop) y (fun (i_1 : Nat) => ((DecJ (bys s)) ∧ ((i_1 = (0 : Nat)) ∨ ((i_1 = (1 : Nat)) ∧ ((List.getD (bys s) (0 : Nat) (0 : Nat)) = (45 : Nat)))))) (fun (ws_1 : (List Nat)) => (fun (i_1 : Nat) => ((DecJ (bys s)) ∧ ((((0 : Nat) < i_1) ∧ (i_1 ≤ (ByteArray.size s))) ∧ (((Dig ws_1) ∧ ((nv ws_1) = (dvl (decT (bys s) i_1)))) ∧ ((List.length ws_1) ≤ ((2 : Nat) * i_1)))))))) ∧ (viewAll kp (selEnv (lp_parLoop.match_1 (fun (p : PS) => Env) y (fun (i_1 : Nat) => [(Prod.mk (0 : Nat) (D.v (Value.string s))), (Prod.mk (2 : Nat) (D.ptr (0 : Nat) (0 : Nat))), (Prod.mk (4 : Nat) (D.v (Value.slice (Option.none) (0 : Nat) (0 : Nat)))), (Prod.mk (5 : Nat) (D.v (Value.int IntKind.i64 ((i_1 : Nat) : Int))))]) (fun (ws_1 : (List Nat)) => (fun (i_1 : Nat) => [(Prod.mk (0 : Nat) (D.v (Value.string s))), (Prod.mk (2 : Nat) (D.ptr (0 : Nat) (0 : Nat))), (Prod.mk (4 : Nat) (D.ro (List.length ws_1) (u32s ws_1))), (Prod.mk (5 : Nat) (D.v (Value.int IntKind.i64 ((i_1 : Nat) : Int))))]))) [(Prod.mk (5 : Nat) (D.v (Value.int IntKind.i64 (IntKind.wrap IntKind.i64 (((i : Nat) : Int) + (1 : Int)))))), (Prod.mk (19 : Nat) (D.v (Value.int IntKind.i64 (IntKind.wrap IntKind.i64 (((i : Nat) : Int) + (1 : Int)))))), (Prod.mk (18 : Nat) (D.v (Value.int IntKind.i64 ((i : Nat) : Int)))), (Prod.mk (23 : Nat) (D.v (Value.bool ((((UInt8.toNat (List.getD (Array.toList (ByteArray.data s)) (Int.toNat ((i : Nat) : Int)) (0 : UInt8))) : Nat) : Int) != (45 : Int))))), (Prod.mk (22 : Nat) (D.v (Value.int IntKind.u8 (((UInt8.toNat (List.getD (Array.toList (ByteArray.data s)) (Int.toNat ((i : Nat) : Int)) (0 : UInt8))) : Nat) : Int)))), (Prod.mk (21 : Nat) (D.v (Value.int IntKind.i64 ((i : Nat) : Int)))), (Prod.mk (20 : Nat) (D.v (Value.string s))), (Prod.mk (17 : Nat) (D.v (Value.bool (Decidable.decide (((i : Nat) : Int) < (((ByteArray.size s) : Nat) : Int)))))), (Prod.mk (16 : Nat) (D.v (Value.int IntKind.i64 (((ByteArray.size s) : Nat) : Int)))), (Prod.mk (15 : Nat) (D.v (Value.string s))), (Prod.mk (14 : Nat) (D.v (Value.int IntKind.i64 ((i : Nat) : Int)))), (Prod.mk (0 : Nat) (D.v (Value.string s))), (Prod.mk (2 : Nat) (D.ptr (0 : Nat) (0 : Nat))), (Prod.mk (4 : Nat) (D.ro (List.length ws) (u32s ws))), (Prod.mk (5 : Nat) (D.v (Value.int IntKind.i64 ((i : Nat) : Int))))]) [(Option.some (Blk.mk (24 : Nat) [(D.v (Value.bool Bool.false)), (D.v (Value.slice (Option.none) (0 : Nat) (0 : Nat)))] Bool.true))] (lp_parLoop.match_1 (fun (p : PS) => Env) y (fun (i_1 : Nat) => [(Prod.mk (0 : Nat) (D.v (Value.string s))), (Prod.mk (2 : Nat) (D.ptr (0 : Nat) (0 : Nat))), (Prod.mk (4 : Nat) (D.v (Value.slice (Option.none) (0 : Nat) (0 : Nat)))), (Prod.mk (5 : Nat) (D.v (Value.int IntKind.i64 ((i_1 : Nat) : Int))))]) (fun (ws_1 : (List Nat)) => (fun (i_1 : Nat) => [(Prod.mk (0 : Nat) (D.v (Value.string s))), (Prod.mk (2 : Nat) (D.ptr (0 : Nat) (0 : Nat))), (Prod.mk (4 : Nat) (D.ro (List.length ws_1) (u32s ws_1))), (Prod.mk (5 : Nat) (D.v (Value.int IntKind.i64 ((i_1 : Nat) : Int))))]))) (lp_parLoop.match_1 (fun (p : PS) => Heap) y (fun (i_1 : Nat) => [d_pb]) (fun (ws_1 : (List Nat)) => (fun (i_1 : Nat) => [d_pb])))))))))))))))) (∃ (r : (List Nat)), (∃ (kp : (List (Option Nat))), ((((Dig r) ∧ ((nv r) = (dvl (decT (bys s) (ByteArray.size s))))) ∧ ((List.length r) ≤ (8000 : Nat))) ∧ (((Exit.exit (0 : Nat)) = (Exit.exit (0 : Nat))) ∧ (viewAll kp [(Prod.mk (0 : Nat) (D.v (Value.string s))), (Prod.mk (2 : Nat) (D.ptr (0 : Nat) (0 : Nat))), (Prod.mk (4 : Nat) (D.ro (List.length ws) (u32s ws)))] [(Option.some (Blk.mk (24 : Nat) [(D.v (Value.bool Bool.false)), (D.v (Value.slice (Option.none) (0 : Nat) (0 : Nat)))] Bool.true))] (Prod.fst (Prod.snd ((fun (ws_1 : (List Nat)) => (Prod.mk (Exit.exit (0 : Nat)) (Prod.mk [(Prod.mk (0 : Nat) (D.v (Value.string s))), (Prod.mk (2 : Nat) (D.ptr (0 : Nat) (0 : Nat))), (Prod.mk (4 : Nat) (D.ro (List.length ws_1) (u32s ws_1)))] [d_pb]))) r))) (Prod.snd (Prod.snd ((fun (ws_1 : (List Nat)) => (Prod.mk (Exit.exit (0 : Nat)) (Prod.mk [(Prod.mk (0 : Nat) (D.v (Value.string s))), (Prod.mk (2 : Nat) (D.ptr (0 : Nat) (0 : Nat))), (Prod.mk (4 : Nat) (D.ro (List.length ws_1) (u32s ws_1)))] [d_pb]))) r)))))))))))))) (by kernel_rfl) ?_
    simp only [true_and, and_true, and_self, IsInt_lit, IsBool_lit, IsStr_lit, Bool.not_eq_true', Bool.not_eq_false', Bool.not_true, Bool.not_false, Int.reduceLE, Int.reduceLT, Int.reduceNeg, Nat.le_refl, Int.le_refl, Nat.reduceLT, Nat.reduceLeDiff, Nat.reduceEqDiff, D.v.injEq, D.tup.injEq, D.agg.injEq, D.ro.injEq, List.cons.injEq, Value.int.injEq, Value.bool.injEq, pcond_true, pcond_false, NamelessL, Nameless, Nat.reduceMul, Nat.reduceAdd, Nat.zero_add, Int.toNat_natCast, bys_get, u10, unu_u32s, n10]
    have hlen := hD.len
    refine pcond_intro (fun h => ?_) (fun h => ?_)
    · simp only [decide_eq_true_eq] at h
      have hc := hD.dig i (by omega)
      have hTs := decT_succ (L := bys s) (i := i) (by omega)
      have e3 : IntKind.i64.wrap ((i : Int) + 1) = ((i + 1 : Nat) : Int) := by rw [wrap_i64_of (by omega) (by omega)]; omega
      have hne : (bys s).getD i 0 ≠ 45 := fun k => by
        rcases hc with hc | hc
        · omega
        · rw [k] at hc; simp [dig1] at hc
      rw [if_neg hne] at hTs
      have hcd : 48 ≤ (bys s).getD i 0 ∧ (bys s).getD i 0 ≤ 57 := by
        rcases hc with hc | hc
        · exact absurd hc.2 hne
        · simpa [dig1] using hc
      simp only [e3]
      refine ⟨⟨by omega, by omega⟩, pcond_intro (fun h1 => ?_) (fun h1 => ?_)⟩
      · generalize (bys s).getD i 0 = c at *
        have ec : IntKind.u64.wrap (IntKind.u8.wrap ((c : Int) - 48)) = ((c - 48 : Nat) : Int) := by rw [Go.VD.wrap_u8, wrap_u64]; omega
        have hdl : (dg (c - 48)).length ≤ 1 := dg_length_le (by simp; omega)
        have hml := dg_mul_len hw d10
        rw [n10] at hml
        obtain ⟨hn, hdp⟩ := nv_plusL (dg_dig (nv ws * 10)) (dg_dig (c - 48))
        have hpl := plusL_len (dg (nv ws * 10)) (dg (c - 48))
        have hpm : plusM (dg (nv ws * 10)) (dg (c - 48)) ≤ ws.length + 1 := by unfold plusM; simp at hml ⊢; omega
        simp only [ec, Int.toNat_natCast, unu_u32s]
        have hl1 : [10].length = 1 := rfl
        refine ⟨⟨by omega, hw, d10⟩, ⟨by omega, by omega⟩, ⟨by omega, by omega⟩, ⟨by omega, by omega, dg_dig _, dg_dig _⟩, .mid (plusL (dg (nv ws * 10)) (dg (c - 48))) (i + 1), [some 0], by simp only; omega, ⟨hD, ⟨by omega, by omega⟩, ⟨hdp, ?_⟩, by omega⟩, ?_⟩
        · rw [hn, hTs, nv_dg, nv_dg, dvl_app, hv, Nat.mul_comm]
        · refine of_eq (B := ((Bool.true = Bool.true) ∧ (((((Option.some (Blk.mk (24 : Nat) [(D.v (Value.bool Bool.false)), (D.v (Value.slice (Option.none) (0 : Nat) (0 : Nat)))] Bool.true)) = (Option.some (Blk.mk (24 : Nat) [(D.v (Value.bool Bool.false)), (D.v (Value.slice (Option.none) (0 : Nat) (0 : Nat)))] Bool.true))) ∧ (NamelessL [(D.v (Value.bool Bool.false)), (D.v (Value.slice (Option.none) (0 : Nat) (0 : Nat)))])) ∧ (([] : List (Option Blk)) = ([] : List (Option Blk)))) ∧ ((True ∧ ((D.v (Value.string s)) = (D.v (Value.string s)))) ∧ ((True ∧ ((D.ptr (0 : Nat) (0 : Nat)) = (D.ptr (0 : Nat) (0 : Nat)))) ∧ ((True ∧ ((D.ro (List.length (plusL (dg ((nv ws) * (10 : Nat))) (dg (c - (48 : Nat))))) (u32s (plusL (dg ((nv ws) * (10 : Nat))) (dg (c - (48 : Nat)))))) = (D.ro (List.length (plusL (dg ((nv ws) * (10 : Nat))) (dg (c - (48 : Nat))))) (u32s (plusL (dg ((nv ws) * (10 : Nat))) (dg (c - (48 : Nat)))))))) ∧ ((True ∧ ((D.v (Value.int IntKind.i64 (((i + (1 : Nat)) : Nat) : Int))) = (D.v (Value.int IntKind.i64 (((i + (1 : Nat)) : Nat) : Int))))) ∧ True))))))) (by kernel_rfl) ?_
          simp [NamelessL, Nameless]
      · simp only [bne_eq_false_iff_eq] at h1; omega
    · simp only [decide_eq_false_iff_not] at h
      have : i = s.size := by omega
      subst this
      refine ⟨ws, [some 0], ⟨⟨hw, hv⟩, by omega⟩, ?_⟩
      refine of_eq (B := ((Bool.true = Bool.true) ∧ (((((Option.some (Blk.mk (24 : Nat) [(D.v (Value.bool Bool.false)), (D.v (Value.slice (Option.none) (0 : Nat) (0 : Nat)))] Bool.true)) = (Option.some (Blk.mk (24 : Nat) [(D.v (Value.bool Bool.false)), (D.v (Value.slice (Option.none) (0 : Nat) (0 : Nat)))] Bool.true))) ∧ (NamelessL [(D.v (Value.bool Bool.false)), (D.v (Value.slice (Option.none) (0 : Nat) (0 : Nat)))])) ∧ (([] : List (Option Blk)) = ([] : List (Option Blk)))) ∧ ((True ∧ ((D.v (Value.string s)) = (D.v (Value.string s)))) ∧ ((True ∧ ((D.ptr (0 : Nat) (0 : Nat)) = (D.ptr (0 : Nat) (0 : Nat)))) ∧ ((True ∧ ((D.ro (List.length ws) (u32s ws)) = (D.ro (List.length ws) (u32s ws)))) ∧ True)))))) (by kernel_rfl) ?_
      simp [NamelessL, Nameless]
/-- a text's value, as an integer with its error -/
def parV (L : List Nat) : Int := if L.getD 0 0 = 45 then -(dvl (decT L L.length) : Int) else dvl (decT L L.length)
def parS (L : List Nat) : Bool × List Nat × Int := bif decide (4000 < L.length) then (false, [], 4) else bif decOk L then okS (parV L) else (false, [], 6)
theorem gParse_pure (s : ByteArray) (hpre : s.size ≤ 100000) : PureJ Try.prog 46 [.v (.string s)] (d_ar (parS (bys s))) := by
  refine pureJ_of_vcpN (call := (addPure 77 ent_decimal (addPure 59 ent_made (addPure 61 ent_gresult noCalls)))) (lp := fun k => bif Nat.beq k 7 then some (lp_parLoop s) else none) (N := 10) T_ok mixed (addPure_ok ent_decimal_ok (addPure_ok ent_made_ok (addPure_ok ent_gresult_ok noCalls_ok))) Try.func46 rfl (by decide) (by kernel_rfl) (by kernel_rfl) (of_eq (B := LRuleP Try.prog Try.f46.ntmps (loopAt ((Try.f46.body).getD .skip) 7) (lp_parLoop s) ∧ True) (by kernel_rfl) ⟨parLoop_rule s, trivial⟩) (by (simp [NamelessL, Nameless, d_ar, d_int, u32s_nameless]; done)) (by (simp [NamelessL, Nameless, d_ar, d_int, u32s_nameless]; done)) ?_
  refine of_eq (B := (True ∧ (True ∧ (True ∧ (True ∧ (True ∧ (pcond (Decidable.decide ((4000 : Int) < (((ByteArray.size s) : Nat) : Int))) (True ∧ ((((2 : Nat) = (2 : Nat)) ∧ ((2 : Nat) ≤ (2 : Nat))) ∧ (True ∧ ((((2 : Nat) ≤ (2 : Nat)) ∧ True) ∧ (((True ∧ (True ∧ True)) ∧ (True ∧ True)) ∧ ((D.tup [(D.agg [(D.v (Value.bool Bool.false)), (D.ro (0 : Nat) ([] : List D))]), (D.v (Value.int IntKind.i64 (4 : Int)))]) = (D.tup [(D.agg [(D.v (Value.bool (Prod.fst (parS (bys s))))), (D.ro (List.length (Prod.fst (Prod.snd (parS (bys s))))) (u32s (Prod.fst (Prod.snd (parS (bys s))))))]), (D.v (Value.int IntKind.i64 (Prod.snd (Prod.snd (parS (bys s))))))]))))))) (True ∧ (((ByteArray.size s) ≤ (100000 : Nat)) ∧ (True ∧ (pcond (!(decOk (bys s))) (True ∧ ((((2 : Nat) = (2 : Nat)) ∧ ((2 : Nat) ≤ (2 : Nat))) ∧ (True ∧ ((((2 : Nat) ≤ (2 : Nat)) ∧ True) ∧ (((True ∧ (True ∧ True)) ∧ (True ∧ True)) ∧ ((D.tup [(D.agg [(D.v (Value.bool Bool.false)), (D.ro (0 : Nat) ([] : List D))]), (D.v (Value.int IntKind.i64 (6 : Int)))]) = (D.tup [(D.agg [(D.v (Value.bool (Prod.fst (parS (bys s))))), (D.ro (List.length (Prod.fst (Prod.snd (parS (bys s))))) (u32s (Prod.fst (Prod.snd (parS (bys s))))))]), (D.v (Value.int IntKind.i64 (Prod.snd (Prod.snd (parS (bys s))))))]))))))) (True ∧ (True ∧ (((DecJ (bys s)) ∧ (((0 : Nat) = (0 : Nat)) ∨ (((0 : Nat) = (1 : Nat)) ∧ ((List.getD (bys s) (0 : Nat) (0 : Nat)) = (45 : Nat))))) ∧ (((Bool.true = Bool.true) ∧ (((((Option.some (Blk.mk (24 : Nat) [(D.v (Value.bool Bool.false)), (D.v (Value.slice (Option.none) (0 : Nat) (0 : Nat)))] Bool.true)) = (Option.some (Blk.mk (24 : Nat) [(D.v (Value.bool Bool.false)), (D.v (Value.slice (Option.none) (0 : Nat) (0 : Nat)))] Bool.true))) ∧ (NamelessL [(D.v (Value.bool Bool.false)), (D.v (Value.slice (Option.none) (0 : Nat) (0 : Nat)))])) ∧ (([] : List (Option Blk)) = ([] : List (Option Blk)))) ∧ ((True ∧ ((D.v (Value.string s)) = (D.v (Value.string s)))) ∧ ((True ∧ ((D.ptr (0 : Nat) (0 : Nat)) = (D.ptr (0 : Nat) (0 : Nat)))) ∧ ((True ∧ ((D.v (Value.slice (Option.none) (0 : Nat) (0 : Nat))) = (D.v (Value.slice (Option.none) (0 : Nat) (0 : Nat))))) ∧ ((True ∧ ((D.v (Value.int IntKind.i64 (0 : Int))) = (D.v (Value.int IntKind.i64 (0 : Int))))) ∧ True)))))) ∧ (∀ (r : (List Nat)), ((((Dig r) ∧ ((nv r) = (dvl (decT (bys s) (ByteArray.size s))))) ∧ ((List.length r) ≤ (8000 : Nat))) → (True ∧ ((((0 : Int) ≤ (0 : Int)) ∧ ((0 : Int) < (((ByteArray.size s) : Nat) : Int))) ∧ (True ∧ (True ∧ (((((u32s r) = (u32s (unu (u32s r)))) ∧ ((List.length r) = (List.length (unu (u32s r))))) ∧ ((List.length (unu (u32s r))) ≤ (1000000 : Nat))) ∧ (((((u32s (trimL (unu (u32s r)))) = (u32s (unu (u32s (trimL (unu (u32s r))))))) ∧ ((List.length (trimL (unu (u32s r)))) = (List.length (unu (u32s (trimL (unu (u32s r)))))))) ∧ ((List.length (unu (u32s (trimL (unu (u32s r)))))) ≤ (1000000 : Nat))) ∧ (True ∧ (True ∧ ((((2 : Nat) = (2 : Nat)) ∧ ((2 : Nat) ≤ (2 : Nat))) ∧ (True ∧ ((((2 : Nat) ≤ (2 : Nat)) ∧ True) ∧ (((True ∧ (True ∧ True)) ∧ (True ∧ True)) ∧ ((D.tup [(D.agg [(D.v (Value.bool (Prod.fst (resG (madeN ((((UInt8.toNat (List.getD (Array.toList (ByteArray.data s)) (0 : Nat) (0 : UInt8))) : Nat) : Int) == (45 : Int)) (unu (u32s r))) (unu (u32s (trimL (unu (u32s r))))))))), (D.ro (List.length (Prod.fst (Prod.snd (resG (madeN ((((UInt8.toNat (List.getD (Array.toList (ByteArray.data s)) (0 : Nat) (0 : UInt8))) : Nat) : Int) == (45 : Int)) (unu (u32s r))) (unu (u32s (trimL (unu (u32s r))))))))) (u32s (Prod.fst (Prod.snd (resG (madeN ((((UInt8.toNat (List.getD (Array.toList (ByteArray.data s)) (0 : Nat) (0 : UInt8))) : Nat) : Int) == (45 : Int)) (unu (u32s r))) (unu (u32s (trimL (unu (u32s r))))))))))]), (D.v (Value.int IntKind.i64 (Prod.snd (Prod.snd (resG (madeN ((((UInt8.toNat (List.getD (Array.toList (ByteArray.data s)) (0 : Nat) (0 : UInt8))) : Nat) : Int) == (45 : Int)) (unu (u32s r))) (unu (u32s (trimL (unu (u32s r))))))))))]) = (D.tup [(D.agg [(D.v (Value.bool (Prod.fst (parS (bys s))))), (D.ro (List.length (Prod.fst (Prod.snd (parS (bys s))))) (u32s (Prod.fst (Prod.snd (parS (bys s))))))]), (D.v (Value.int IntKind.i64 (Prod.snd (Prod.snd (parS (bys s))))))]))))))))))))))))))))))))))))))) (by kernel_rfl) ?_
  simp only [true_and, and_true, and_self, IsInt_lit, IsBool_lit, IsStr_lit, Bool.not_eq_true', Bool.not_eq_false', Bool.not_true, Bool.not_false, Int.reduceLE, Int.reduceLT, Int.reduceNeg, Nat.le_refl, Int.le_refl, Nat.reduceLT, Nat.reduceLeDiff, Nat.reduceEqDiff, D.v.injEq, D.tup.injEq, D.agg.injEq, D.ro.injEq, List.cons.injEq, Value.int.injEq, Value.bool.injEq, pcond_true, pcond_false, NamelessL, Nameless, Nat.reduceMul, Nat.reduceAdd, Nat.zero_add, Int.toNat_natCast, bys_get, unu_u32s]
  have hsz := bys_length s
  refine pcond_intro (fun h => ?_) (fun h => ⟨hpre, pcond_intro (fun h1 => ?_) (fun h1 => ?_)⟩)
  · have : decide (4000 < (bys s).length) = true := by simp only [decide_eq_true_eq] at h ⊢; omega
    simp [parS, this, u32s]
  · have : decide (4000 < (bys s).length) = false := by simp only [decide_eq_false_iff_not] at h ⊢; omega
    simp only [Bool.not_eq_true'] at h1
    simp [parS, this, h1, u32s]
  · have h2 : decide (4000 < (bys s).length) = false := by simp only [decide_eq_false_iff_not] at h ⊢; omega
    simp only [Bool.not_eq_false'] at h1
    simp only [decide_eq_false_iff_not] at h
    have hJ := decJ_of (by omega) h1
    have hs := hJ.some
    refine ⟨⟨hJ, .inl trivial⟩, ?_⟩
    rintro r ⟨⟨hr, hv⟩, hl⟩
    have e : resG (madeN ((((bys s).getD 0 0 : Nat) : Int) == 45) r) (trimL r) = parS (bys s) := by
      have ht : trimL r = dg (dvl (decT (bys s) s.size)) := by rw [trimL_dig hr, hv]
      have eb : ((((bys s).getD 0 0 : Nat) : Int) == 45) = decide ((bys s).getD 0 0 = 45) := by rw [Bool.eq_iff_iff]; simp; omega
      simp only [parS, h2, h1, cond_true, cond_false, eb]
      unfold parV
      rw [hsz]
      have hm := fun neg => (madeN_dg neg (dvl (decT (bys s) s.size))).1
      have hm2 : ∀ neg, madeN neg r = (neg && decide (dvl (decT (bys s) s.size) ≠ 0)) := fun neg => by
        have := hm neg
        unfold madeN at this ⊢
        rw [ht]
        rwa [(madeN_dg neg _).2] at this
      rw [hm2, ht]
      generalize dvl (decT (bys s) s.size) = V
      have o1 : ofL (-(V : Int)) = dg V := by simp [ofL]
      have o2 : ofL (V : Int) = dg V := by simp [ofL]
      have n1 : decide (-(V : Int) < 0) = decide (V ≠ 0) := decide_eq_decide.2 (by omega)
      have n2 : decide ((V : Int) < 0) = false := decide_eq_false (by omega)
      by_cases hc : (bys s).getD 0 0 = 45
      · rw [if_pos hc, decide_eq_true hc]; simp only [resG, okS, o1, n1, Bool.true_and]
      · rw [if_neg hc, decide_eq_false hc]; simp only [resG, okS, o2, n2, Bool.false_and]
    have tl : (trimL r).length ≤ r.length := by rw [trimL_length]; exact tn_le _ _
    rw [e]
    exact ⟨by omega, by omega, by omega, ⟨rfl, rfl, rfl⟩, rfl⟩
def ent_gParse : Ent := fun ds => match ds with
  | [.v (.string s)] => some (d_ar (parS (bys s)), s.size ≤ 100000)
  | _ => none
theorem ent_gParse_ok : EntOk Try.prog 46 ent_gParse := by
  intro ds d c h hc; unfold ent_gParse at h; split at h
  · obtain ⟨rfl, rfl⟩ := pair_inj h; exact gParse_pure _ hc
  · cases h
/-! ## The program's integers: Parse. -/
theorem bys_inj {s t : ByteArray} (h : bys s = bys t) : s = t := by
  have h1 : s.data.toList = t.data.toList := by
    unfold bys at h
    exact (List.map_inj_right (fun x y hxy => UInt8.toNat_inj.1 hxy)).1 h
  cases s; cases t
  simp only at h1
  congr 1
  exact Array.toList_inj.1 h1
theorem beq_list (l m : List UInt8) : (l == m) = decide (l.map (·.toNat) = m.map (·.toNat)) := by
  rw [Bool.eq_iff_iff, decide_eq_true_eq, beq_iff_eq]
  exact ⟨fun h => by rw [h], fun h => (List.map_inj_right (fun x y hxy => UInt8.toNat_inj.1 hxy)).1 h⟩
theorem bys_def (s : ByteArray) : s.data.toList.map (·.toNat) = bys s := rfl
def hasP (s p : ByteArray) : Bool := decide (p.size ≤ s.size) && decide ((bys s).take p.size = bys p)
theorem hasPrefix_pure (s p : ByteArray) : PureJ Try.prog 101 [.v (.string s), .v (.string p)] (.v (.bool (hasP s p))) := by
  refine pureJ_of_vcx (call := noCalls) (lp := fun _ => none) (N := 10) T_ok mixed noCalls_ok Try.func101 rfl (by decide) (by kernel_rfl) (by kernel_rfl) (LpAll.none _) (by first | trivial | (simp only [NamelessL, Nameless, and_self, and_true, true_and]; done) | (simp [NamelessL, Nameless, u32s_nameless, namelessL_ints]; done)) (by first | trivial | (simp only [NamelessL, Nameless, and_self, and_true, true_and]; done) | (simp [NamelessL, Nameless, u32s_nameless, namelessL_ints]; done)) ?_
  refine of_eq (B := (True ∧ (True ∧ (True ∧ (True ∧ (True ∧ (True ∧ (True ∧ (pcond (Decidable.decide ((((ByteArray.size p) : Nat) : Int) ≤ (((ByteArray.size s) : Nat) : Int))) (True ∧ (True ∧ (True ∧ ((True ∧ ((((0 : Int) ≤ (((ByteArray.size p) : Nat) : Int)) ∧ ((((ByteArray.size p) : Nat) : Int) ≤ (((ByteArray.size s) : Nat) : Int))) ∧ True)) ∧ (True ∧ (True ∧ (True ∧ (True ∧ (True ∧ (True ∧ ((D.v (Value.bool ((ByteArray.toList (ByteArray.extract s (0 : Nat) (Int.toNat (((ByteArray.size p) : Nat) : Int)))) == (ByteArray.toList p)))) = (D.v (Value.bool (hasP s p)))))))))))))) (True ∧ (True ∧ (True ∧ (True ∧ ((D.v (Value.bool Bool.false)) = (D.v (Value.bool (hasP s p))))))))))))))))) (by kernel_rfl) ?_
  simp only [true_and, and_true, and_self, IsInt_lit, IsBool_lit, IsStr_lit, Bool.not_eq_true', Bool.not_eq_false', Bool.not_true, Bool.not_false, Int.reduceLE, Int.reduceLT, Int.reduceNeg, Nat.le_refl, Int.le_refl, Nat.reduceLT, Nat.reduceLeDiff, Nat.reduceEqDiff, D.v.injEq, D.tup.injEq, D.agg.injEq, D.ro.injEq, List.cons.injEq, Value.int.injEq, Value.bool.injEq, pcond_true, pcond_false, NamelessL, Nameless, Nat.reduceMul, Nat.reduceAdd, Nat.zero_add, Int.toNat_natCast, ByteArray.toList_eq, beq_list, bys_def, bys_extract, List.drop_zero, Nat.sub_zero]
  refine pcond_intro (fun h => ?_) (fun h => ?_)
  · simp only [decide_eq_true_eq] at h
    refine ⟨⟨by omega, h⟩, ?_⟩
    have : p.size ≤ s.size := by omega
    simp [hasP, this]
  · simp only [decide_eq_false_iff_not] at h
    have : ¬ p.size ≤ s.size := by omega
    simp [hasP, this]
def ent_hasPrefix : Ent := fun ds => match ds with
  | [.v (.string s), .v (.string p)] => some (.v (.bool (hasP s p)), True)
  | _ => none
theorem ent_hasPrefix_ok : EntOk Try.prog 101 ent_hasPrefix := by
  intro ds d c h hc; unfold ent_hasPrefix at h; split at h
  · obtain ⟨rfl, rfl⟩ := pair_inj h; exact hasPrefix_pure _ _
  · cases h
theorem cutPrefix0_pure (s p : ByteArray) : PureJ Try.prog 97 [.v (.string s), .v (.string p)] (.tup [.v (.string (bif hasP s p then s.extract p.size s.size else s)), .v (.bool (hasP s p))]) := by
  refine pureJ_of_vcx (call := (addPure 101 ent_hasPrefix noCalls)) (lp := fun _ => none) (N := 10) T_ok mixed (addPure_ok ent_hasPrefix_ok noCalls_ok) Try.func97 rfl (by decide) (by kernel_rfl) (by kernel_rfl) (LpAll.none _) (by first | trivial | (simp only [NamelessL, Nameless, and_self, and_true, true_and]; done) | (simp [NamelessL, Nameless, u32s_nameless, namelessL_ints]; done)) (by first | trivial | (simp only [NamelessL, Nameless, and_self, and_true, true_and]; done) | (simp [NamelessL, Nameless, u32s_nameless, namelessL_ints]; done)) ?_
  refine of_eq (B := (True ∧ (True ∧ (True ∧ (True ∧ (True ∧ (True ∧ (pcond (!(hasP s p)) (True ∧ (True ∧ (True ∧ (True ∧ ((True ∧ (True ∧ True)) ∧ ((D.tup [(D.v (Value.string s)), (D.v (Value.bool Bool.false))]) = (D.tup [(D.v (Value.string (cond (hasP s p) (ByteArray.extract s (ByteArray.size p) (ByteArray.size s)) s))), (D.v (Value.bool (hasP s p)))]))))))) (True ∧ (True ∧ (True ∧ (((((0 : Int) ≤ (((ByteArray.size p) : Nat) : Int)) ∧ ((((ByteArray.size p) : Nat) : Int) ≤ (((ByteArray.size s) : Nat) : Int))) ∧ (True ∧ True)) ∧ (True ∧ (True ∧ (True ∧ ((True ∧ (True ∧ True)) ∧ ((D.tup [(D.v (Value.string (ByteArray.extract s (Int.toNat (((ByteArray.size p) : Nat) : Int)) (ByteArray.size s)))), (D.v (Value.bool Bool.true))]) = (D.tup [(D.v (Value.string (cond (hasP s p) (ByteArray.extract s (ByteArray.size p) (ByteArray.size s)) s))), (D.v (Value.bool (hasP s p)))])))))))))))))))))) (by kernel_rfl) ?_
  simp only [true_and, and_true, and_self, IsInt_lit, IsBool_lit, IsStr_lit, Bool.not_eq_true', Bool.not_eq_false', Bool.not_true, Bool.not_false, Int.reduceLE, Int.reduceLT, Int.reduceNeg, Nat.le_refl, Int.le_refl, Nat.reduceLT, Nat.reduceLeDiff, Nat.reduceEqDiff, D.v.injEq, D.tup.injEq, D.agg.injEq, D.ro.injEq, List.cons.injEq, Value.int.injEq, Value.bool.injEq, pcond_true, pcond_false, NamelessL, Nameless, Nat.reduceMul, Nat.reduceAdd, Nat.zero_add, Int.toNat_natCast]
  refine pcond_intro (fun h => ?_) (fun h => ?_)
  · simp only [Bool.not_eq_true'] at h; simp [h]
  · simp only [Bool.not_eq_false'] at h
    have : p.size ≤ s.size := by unfold hasP at h; simp at h; exact h.1
    simp [h]; omega
def ent_cutPrefix0 : Ent := fun ds => match ds with
  | [.v (.string s), .v (.string p)] => some (.tup [.v (.string (bif hasP s p then s.extract p.size s.size else s)), .v (.bool (hasP s p))], True)
  | _ => none
theorem ent_cutPrefix0_ok : EntOk Try.prog 97 ent_cutPrefix0 := by
  intro ds d c h hc; unfold ent_cutPrefix0 at h; split at h
  · obtain ⟨rfl, rfl⟩ := pair_inj h; exact cutPrefix0_pure _ _
  · cases h
theorem cutPrefix_pure (s p : ByteArray) : PureJ Try.prog 74 [.v (.string s), .v (.string p)] (.tup [.v (.string (bif hasP s p then s.extract p.size s.size else s)), .v (.bool (hasP s p))]) := by
  refine pureJ_of_vcx (call := (addPure 97 ent_cutPrefix0 noCalls)) (lp := fun _ => none) (N := 10) T_ok mixed (addPure_ok ent_cutPrefix0_ok noCalls_ok) Try.func74 rfl (by decide) (by kernel_rfl) (by kernel_rfl) (LpAll.none _) (by first | trivial | (simp only [NamelessL, Nameless, and_self, and_true, true_and]; done) | (simp [NamelessL, Nameless, u32s_nameless, namelessL_ints]; done)) (by first | trivial | (simp only [NamelessL, Nameless, and_self, and_true, true_and]; done) | (simp [NamelessL, Nameless, u32s_nameless, namelessL_ints]; done)) ?_
  refine of_eq (B := (True ∧ (True ∧ (True ∧ (True ∧ (True ∧ (True ∧ (True ∧ (True ∧ (True ∧ (True ∧ ((True ∧ (True ∧ True)) ∧ ((D.tup [(D.v (Value.string (cond (hasP s p) (ByteArray.extract s (ByteArray.size p) (ByteArray.size s)) s))), (D.v (Value.bool (hasP s p)))]) = (D.tup [(D.v (Value.string (cond (hasP s p) (ByteArray.extract s (ByteArray.size p) (ByteArray.size s)) s))), (D.v (Value.bool (hasP s p)))])))))))))))))) (by kernel_rfl) ?_
  simp only [true_and, and_true, and_self, IsInt_lit, IsBool_lit, IsStr_lit, Bool.not_eq_true', Bool.not_eq_false', Bool.not_true, Bool.not_false, Int.reduceLE, Int.reduceLT, Int.reduceNeg, Nat.le_refl, Int.le_refl, Nat.reduceLT, Nat.reduceLeDiff, Nat.reduceEqDiff, D.v.injEq, D.tup.injEq, D.agg.injEq, D.ro.injEq, List.cons.injEq, Value.int.injEq, Value.bool.injEq, pcond_true, pcond_false, NamelessL, Nameless, Nat.reduceMul, Nat.reduceAdd, Nat.zero_add, Int.toNat_natCast]
def ent_cutPrefix : Ent := fun ds => match ds with
  | [.v (.string s), .v (.string p)] => some (.tup [.v (.string (bif hasP s p then s.extract p.size s.size else s)), .v (.bool (hasP s p))], True)
  | _ => none
theorem ent_cutPrefix_ok : EntOk Try.prog 74 ent_cutPrefix := by
  intro ds d c h hc; unfold ent_cutPrefix at h; split at h
  · obtain ⟨rfl, rfl⟩ := pair_inj h; exact cutPrefix_pure _ _
  · cases h
def canOk (L : List Nat) : Bool := allD L && (decide (L = [48]) || !(decide (L.length = 0)) && !(decide (L.getD 0 0 = 48)))
def lp_canLoop (d : ByteArray) : LoopO := loopRule2 (α := Nat) (β := Unit) (γ := Unit) [] (fun i => i ≤ d.size ∧ ∀ j, j < i → dig1 ((bys d).getD j 0) = true) (fun i => [(0, .v (.string d)), (5, .v (.int .i64 (d.size : Int))), (6, .v (.int .i64 (i : Int)))]) (fun _ => []) (0) (fun _ => allD (bys d) = true) (fun _ => (.exit 0, [(0, .v (.string d))], [])) (fun _ => allD (bys d) = false) (fun _ => (.ret, [(2, .v (.bool false))], []))
theorem canLoop_rule (d : ByteArray) (hpre : d.size ≤ 100000) : LRuleP Try.prog Try.f75.ntmps (loopAt ((Try.f75.body).getD .skip) 2) (lp_canLoop d) := by
  refine lrule_of2 (α := Nat) (β := Unit) (γ := Unit) (call := noCalls) (lp := fun _ => none) (N := 10) T_ok mixed noCalls_ok (fun i => d.size - i) (by kernel_rfl) (LpAllP.none _) ?_
  intro x hJ
  refine of_eq (B := (True ∧ (pcond (Decidable.decide (((x : Nat) : Int) < (((ByteArray.size d) : Nat) : Int))) (True ∧ (True ∧ (True ∧ (True ∧ ((((0 : Int) ≤ ((x : Nat) : Int)) ∧ (((x : Nat) : Int) < (((ByteArray.size d) : Nat) : Int))) ∧ (True ∧ (True ∧ (pcond (Decidable.decide ((((UInt8.toNat (List.getD (Array.toList (ByteArray.data d)) (Int.toNat ((x : Nat) : Int)) (0 : UInt8))) : Nat) : Int) < (48 : Int))) (True ∧ (True ∧ ((∃ (r : Unit), (∃ (kp : (List (Option Nat))), (((allD (bys d)) = Bool.true) ∧ ((Exit.ret = (Exit.exit (0 : Nat))) ∧ (viewAll kp [(Prod.mk (0 : Nat) (D.v (Value.string d)))] ([] : List (Option Blk)) (Prod.fst (Prod.snd ((fun (x_1 : Unit) => (Prod.mk (Exit.exit (0 : Nat)) (Prod.mk [(Prod.mk (0 : Nat) (D.v (Value.string d)))] ([] : List (Option Blk))))) r))) (Prod.snd (Prod.snd ((fun (x_1 : Unit) => (Prod.mk (Exit.exit (0 : Nat)) (Prod.mk [(Prod.mk (0 : Nat) (D.v (Value.string d)))] ([] : List (Option Blk))))) r)))))))) ∨ (∃ (r : Unit), (∃ (kp : (List (Option Nat))), (((allD (bys d)) = Bool.false) ∧ ((Exit.ret = Exit.ret) ∧ (viewAll kp [(Prod.mk (2 : Nat) (D.v (Value.bool Bool.false)))] ([] : List (Option Blk)) (Prod.fst (Prod.snd ((fun (x_1 : Unit) => (Prod.mk Exit.ret (Prod.mk [(Prod.mk (2 : Nat) (D.v (Value.bool Bool.false)))] ([] : List (Option Blk))))) r))) (Prod.snd (Prod.snd ((fun (x_1 : Unit) => (Prod.mk Exit.ret (Prod.mk [(Prod.mk (2 : Nat) (D.v (Value.bool Bool.false)))] ([] : List (Option Blk))))) r))))))))))) (True ∧ (True ∧ ((((0 : Int) ≤ ((x : Nat) : Int)) ∧ (((x : Nat) : Int) < (((ByteArray.size d) : Nat) : Int))) ∧ (True ∧ (True ∧ (pcond (Decidable.decide ((57 : Int) < (((UInt8.toNat (List.getD (Array.toList (ByteArray.data d)) (Int.toNat ((x : Nat) : Int)) (0 : UInt8))) : Nat) : Int))) (True ∧ ((∃ (r : Unit), (∃ (kp : (List (Option Nat))), (((allD (bys d)) = Bool.true) ∧ ((Exit.ret = (Exit.exit (0 : Nat))) ∧ (viewAll kp [(Prod.mk (0 : Nat) (D.v (Value.string d)))] ([] : List (Option Blk)) (Prod.fst (Prod.snd ((fun (x_1 : Unit) => (Prod.mk (Exit.exit (0 : Nat)) (Prod.mk [(Prod.mk (0 : Nat) (D.v (Value.string d)))] ([] : List (Option Blk))))) r))) (Prod.snd (Prod.snd ((fun (x_1 : Unit) => (Prod.mk (Exit.exit (0 : Nat)) (Prod.mk [(Prod.mk (0 : Nat) (D.v (Value.string d)))] ([] : List (Option Blk))))) r)))))))) ∨ (∃ (r : Unit), (∃ (kp : (List (Option Nat))), (((allD (bys d)) = Bool.false) ∧ ((Exit.ret = Exit.ret) ∧ (viewAll kp [(Prod.mk (2 : Nat) (D.v (Value.bool Bool.false)))] ([] : List (Option Blk)) (Prod.fst (Prod.snd ((fun (x_1 : Unit) => (Prod.mk Exit.ret (Prod.mk [(Prod.mk (2 : Nat) (D.v (Value.bool Bool.false)))] ([] : List (Option Blk))))) r))) (Prod.snd (Prod.snd ((fun (x_1 : Unit) => (Prod.mk Exit.ret (Prod.mk [(Prod.mk (2 : Nat) (D.v (Value.bool Bool.false)))] ([] : List (Option Blk))))) r)))))))))) (True ∧ (True ∧ (∃ (y : Nat), (∃ (kp : (List (Option Nat))), ((((ByteArray.size d) - y) < ((ByteArray.size d) - x)) ∧ (((y ≤ (ByteArray.size d)) ∧ (∀ (j : Nat), ((j < y) → ((dig1 (List.getD (bys d) j (0 : Nat))) = Bool.true)))) ∧ (viewAll kp [(Prod.mk (0 : Nat) (D.v (Value.string d))), (Prod.mk (5 : Nat) (D.v (Value.int IntKind.i64 (((ByteArray.size d) : Nat) : Int)))), (Prod.mk (6 : Nat) (D.v (Value.int IntKind.i64 (IntKind.wrap IntKind.i64 (((x : Nat) : Int) + (1 : Int))))))] ([] : List (Option Blk)) [(Prod.mk (0 : Nat) (D.v (Value.string d))), (Prod.mk (5 : Nat) (D.v (Value.int IntKind.i64 (((ByteArray.size d) : Nat) : Int)))), (Prod.mk (6 : Nat) (D.v (Value.int IntKind.i64 ((y : Nat) : Int))))] ([] : List (Option Blk))))))))))))))))))))))) ((∃ (r : Unit), (∃ (kp : (List (Option Nat))), (((allD (bys d)) = Bool.true) ∧ (((Exit.exit (0 : Nat)) = (Exit.exit (0 : Nat))) ∧ (viewAll kp [(Prod.mk (0 : Nat) (D.v (Value.string d)))] ([] : List (Option Blk)) (Prod.fst (Prod.snd ((fun (x_1 : Unit) => (Prod.mk (Exit.exit (0 : Nat)) (Prod.mk [(Prod.mk (0 : Nat) (D.v (Value.string d)))] ([] : List (Option Blk))))) r))) (Prod.snd (Prod.snd ((fun (x_1 : Unit) => (Prod.mk (Exit.exit (0 : Nat)) (Prod.mk [(Prod.mk (0 : Nat) (D.v (Value.string d)))] ([] : List (Option Blk))))) r)))))))) ∨ (∃ (r : Unit), (∃ (kp : (List (Option Nat))), (((allD (bys d)) = Bool.false) ∧ (((Exit.exit (0 : Nat)) = Exit.ret) ∧ (viewAll kp ([] : List (Prod Nat D)) ([] : List (Option Blk)) (Prod.fst (Prod.snd ((fun (x_1 : Unit) => (Prod.mk Exit.ret (Prod.mk [(Prod.mk (2 : Nat) (D.v (Value.bool Bool.false)))] ([] : List (Option Blk))))) r))) (Prod.snd (Prod.snd ((fun (x_1 : Unit) => (Prod.mk Exit.ret (Prod.mk [(Prod.mk (2 : Nat) (D.v (Value.bool Bool.false)))] ([] : List (Option Blk))))) r)))))))))))) (by kernel_rfl) ?_
  simp only [true_and, and_true, and_self, IsInt_lit, IsBool_lit, IsStr_lit, Bool.not_eq_true', Bool.not_eq_false', Bool.not_true, Bool.not_false, Int.reduceLE, Int.reduceLT, Int.reduceNeg, Nat.le_refl, Int.le_refl, Nat.reduceLT, Nat.reduceLeDiff, Nat.reduceEqDiff, D.v.injEq, D.tup.injEq, D.agg.injEq, D.ro.injEq, List.cons.injEq, Value.int.injEq, Value.bool.injEq, pcond_true, pcond_false, NamelessL, Nameless, Nat.reduceMul, Nat.reduceAdd, Nat.zero_add, Int.toNat_natCast, bys_get]
  obtain ⟨hx, hJ⟩ := hJ
  have hb := hpre
  have hl := bys_length d
  refine pcond_intro (fun h => ?_) (fun h => ?_)
  · simp only [decide_eq_true_eq] at h
    have e3 : IntKind.i64.wrap ((x : Int) + 1) = ((x + 1 : Nat) : Int) := by rw [wrap_i64_of (by omega) (by omega)]; omega
    simp only [e3]
    refine ⟨⟨by omega, by omega⟩, pcond_intro (fun h1 => .inr ⟨(), [], ?_, ?_⟩) (fun h1 => ⟨⟨by omega, by omega⟩, pcond_intro (fun h2 => .inr ⟨(), [], ?_, ?_⟩) (fun h2 => ⟨x + 1, [], by omega, ⟨by omega, fun j hj => ?_⟩, ?_⟩)⟩)⟩
    · simp only [decide_eq_true_eq] at h1
      refine allD_not (j := x) (by omega) ?_
      unfold dig1; generalize (bys d).getD x 0 = c at *; simp; omega
    · refine of_eq (B := ((Bool.true = Bool.true) ∧ ((([] : List (Option Blk)) = ([] : List (Option Blk))) ∧ ((True ∧ ((D.v (Value.bool Bool.false)) = (D.v (Value.bool Bool.false)))) ∧ True)))) (by kernel_rfl) ?_
      simp
    · simp only [decide_eq_true_eq] at h2
      refine allD_not (j := x) (by omega) ?_
      unfold dig1; generalize (bys d).getD x 0 = c at *; simp; omega
    · refine of_eq (B := ((Bool.true = Bool.true) ∧ ((([] : List (Option Blk)) = ([] : List (Option Blk))) ∧ ((True ∧ ((D.v (Value.bool Bool.false)) = (D.v (Value.bool Bool.false)))) ∧ True)))) (by kernel_rfl) ?_
      simp
    · simp only [decide_eq_false_iff_not] at h1 h2
      rcases Nat.lt_or_ge j x with h3 | h3
      · exact hJ j h3
      · rw [show j = x by omega]
        unfold dig1; generalize (bys d).getD x 0 = c at *; simp; omega
    · refine of_eq (B := ((Bool.true = Bool.true) ∧ ((([] : List (Option Blk)) = ([] : List (Option Blk))) ∧ ((True ∧ ((D.v (Value.string d)) = (D.v (Value.string d)))) ∧ ((True ∧ ((D.v (Value.int IntKind.i64 (((ByteArray.size d) : Nat) : Int))) = (D.v (Value.int IntKind.i64 (((ByteArray.size d) : Nat) : Int))))) ∧ ((True ∧ ((D.v (Value.int IntKind.i64 (((x + (1 : Nat)) : Nat) : Int))) = (D.v (Value.int IntKind.i64 (((x + (1 : Nat)) : Nat) : Int))))) ∧ True)))))) (by kernel_rfl) ?_
      simp
  · simp only [decide_eq_false_iff_not] at h
    refine .inl ⟨(), [], allD_of fun j hj => hJ j (by omega), ?_⟩
    refine of_eq (B := ((Bool.true = Bool.true) ∧ ((([] : List (Option Blk)) = ([] : List (Option Blk))) ∧ ((True ∧ ((D.v (Value.string d)) = (D.v (Value.string d)))) ∧ True)))) (by kernel_rfl) ?_
    simp
theorem canonical_pure (s : ByteArray) (hpre : s.size ≤ 100000) : PureJ Try.prog 75 [.v (.string s)] (.v (.bool (canOk (bys s)))) := by
  refine pureJ_of_vcp (call := noCalls) (lp := fun k => bif Nat.beq k 2 then some (lp_canLoop s) else none) (N := 10) T_ok mixed noCalls_ok Try.func75 rfl (by decide) (by kernel_rfl) (by kernel_rfl) (of_eq (B := LRuleP Try.prog Try.f75.ntmps (loopAt ((Try.f75.body).getD .skip) 2) (lp_canLoop s) ∧ True) (by kernel_rfl) ⟨canLoop_rule s hpre, trivial⟩) (by first | trivial | (simp only [NamelessL, Nameless, and_self, and_true, true_and]; done) | (simp [NamelessL, Nameless, u32s_nameless, namelessL_ints]; done)) (by first | trivial | (simp only [NamelessL, Nameless, and_self, and_true, true_and]; done) | (simp [NamelessL, Nameless, u32s_nameless, namelessL_ints]; done)) ?_
  refine of_eq (B := (True ∧ (True ∧ (True ∧ (True ∧ ((((0 : Nat) ≤ (ByteArray.size s)) ∧ (∀ (j : Nat), ((j < (0 : Nat)) → ((dig1 (List.getD (bys s) j (0 : Nat))) = Bool.true)))) ∧ (((Bool.true = Bool.true) ∧ ((([] : List (Option Blk)) = ([] : List (Option Blk))) ∧ ((True ∧ ((D.v (Value.string s)) = (D.v (Value.string s)))) ∧ ((True ∧ ((D.v (Value.int IntKind.i64 (((ByteArray.size s) : Nat) : Int))) = (D.v (Value.int IntKind.i64 (((ByteArray.size s) : Nat) : Int))))) ∧ ((True ∧ ((D.v (Value.int IntKind.i64 (0 : Int))) = (D.v (Value.int IntKind.i64 (0 : Int))))) ∧ True))))) ∧ ((Unit → (((allD (bys s)) = Bool.true) → (True ∧ (True ∧ (True ∧ (pcond ((ByteArray.toList s) == [(UInt8.ofBitVec (BitVec.ofFin (Fin.mk (48 : Nat) (Nat.mod_lt 48 (BitVec.ofNat._proof_1 (8 : Nat))))))]) ((([] : List Value) = ([] : List Value)) ∧ ((([] : List Value) = ([] : List Value)) ∧ ((([] : List Value) = ([] : List Value)) ∧ (True ∧ (True ∧ (True ∧ (True ∧ ((D.v (Value.bool Bool.true)) = (D.v (Value.bool (canOk (bys s)))))))))))) (True ∧ (True ∧ (True ∧ (pcond (!((ByteArray.toList s) == ([] : List UInt8))) (True ∧ ((((0 : Int) ≤ (0 : Int)) ∧ ((0 : Int) < (((ByteArray.size s) : Nat) : Int))) ∧ (True ∧ (True ∧ (True ∧ (True ∧ (True ∧ (True ∧ ((D.v (Value.bool ((((UInt8.toNat (List.getD (Array.toList (ByteArray.data s)) (0 : Nat) (0 : UInt8))) : Nat) : Int) != (48 : Int)))) = (D.v (Value.bool (canOk (bys s))))))))))))) (True ∧ (True ∧ (True ∧ (True ∧ (True ∧ ((D.v (Value.bool Bool.false)) = (D.v (Value.bool (canOk (bys s)))))))))))))))))))) ∧ (Unit → (((allD (bys s)) = Bool.false) → (True ∧ (True ∧ ((D.v (Value.bool Bool.false)) = (D.v (Value.bool (canOk (bys s))))))))))))))))) (by kernel_rfl) ?_
  simp only [true_and, and_true, and_self, IsInt_lit, IsBool_lit, IsStr_lit, Bool.not_eq_true', Bool.not_eq_false', Bool.not_true, Bool.not_false, Int.reduceLE, Int.reduceLT, Int.reduceNeg, Nat.le_refl, Int.le_refl, Nat.reduceLT, Nat.reduceLeDiff, Nat.reduceEqDiff, D.v.injEq, D.tup.injEq, D.agg.injEq, D.ro.injEq, List.cons.injEq, Value.int.injEq, Value.bool.injEq, pcond_true, pcond_false, NamelessL, Nameless, Nat.reduceMul, Nat.reduceAdd, Nat.zero_add, Int.toNat_natCast, bys_get, ByteArray.toList_eq, beq_list, bys_def]
  refine ⟨⟨Nat.zero_le _, fun j hj => absurd hj (Nat.not_lt_zero _)⟩, fun _ h => ?_, fun _ h => ?_⟩
  · change pcond (decide (bys s = [48])) _ (pcond (!decide (bys s = [])) _ _)
    have hl := bys_length s
    refine pcond_intro (fun h1 => ?_) (fun h1 => pcond_intro (fun h2 => ?_) (fun h2 => ?_))
    · simp only [canOk, h, h1, Bool.true_or, Bool.and_self]
    · simp only [Bool.not_eq_true', decide_eq_false_iff_not] at h2
      have h3 : 0 < (bys s).length := List.length_pos_iff.2 h2
      refine ⟨by omega, ?_⟩
      have e : ((((bys s).getD 0 0 : Nat) : Int) != 48) = !(decide ((bys s).getD 0 0 = 48)) := by rw [Bool.eq_iff_iff]; simp; omega
      have h4 : decide ((bys s).length = 0) = false := decide_eq_false (by omega)
      simp only [canOk, h, h1, h4, e, Bool.false_or, Bool.true_and, Bool.not_false]
    · simp only [Bool.not_eq_false', decide_eq_true_eq] at h2
      simp [canOk, h2]
  · simp [canOk, h]
def ent_canonical : Ent := fun ds => match ds with
  | [.v (.string s)] => some (.v (.bool (canOk (bys s))), s.size ≤ 100000)
  | _ => none
theorem ent_canonical_ok : EntOk Try.prog 75 ent_canonical := by
  intro ds d c h hc; unfold ent_canonical at h; split at h
  · obtain ⟨rfl, rfl⟩ := pair_inj h; exact canonical_pure _ hc
  · cases h
theorem dec_can (L : List Nat) : (canOk (decD L) && !(decide (L.getD 0 0 = 45) && decide (decD L = [48]))) = decOk L := by
  have hd : decD L = if L.getD 0 0 = 45 then L.drop 1 else L := rfl
  have hlen : (decD L).length = if L.getD 0 0 = 45 then L.length - 1 else L.length := by rw [hd]; split <;> simp
  unfold canOk decOk
  have h48 : decD L = [48] ↔ (decD L).length = 1 ∧ (decD L).getD 0 0 = 48 := by
    constructor
    · intro h; rw [h]; exact ⟨rfl, rfl⟩
    · rintro ⟨h1, h2⟩
      match hm : decD L with
      | [] => rw [hm] at h1; simp at h1
      | [c] => rw [hm] at h2; simp at h2; rw [h2]
      | _ :: _ :: _ => rw [hm] at h1; simp at h1
  generalize decD L = D at *
  rw [Bool.eq_iff_iff]
  simp only [Bool.and_eq_true, Bool.or_eq_true, Bool.not_eq_true', Bool.and_eq_false_imp, decide_eq_true_eq, decide_eq_false_iff_not, h48]
  generalize L.getD 0 0 = c at *
  generalize D.getD 0 0 = d at *
  by_cases hc : c = 45
  · rw [if_pos hc] at hlen
    constructor
    · rintro ⟨⟨h1, h2⟩, h3⟩
      exact ⟨⟨by omega, fun h => by omega⟩, h1⟩
    · rintro ⟨⟨h1, h2⟩, h3⟩
      exact ⟨⟨h3, by omega⟩, fun _ => by omega⟩
  · rw [if_neg hc] at hlen
    constructor
    · rintro ⟨⟨h1, h2⟩, h3⟩
      exact ⟨⟨by omega, fun h => by omega⟩, h1⟩
    · rintro ⟨⟨h1, h2⟩, h3⟩
      exact ⟨⟨h3, by omega⟩, fun _ => by omega⟩
/-! ## The program's integers: a group of decimal digits behind others. -/
def mgV (zs : List Nat) (f c i : Nat) : Nat := c + f * nv (zs.take i)
def mgT (zs : List Nat) (f c i : Nat) : List Nat := dgn i (mgV zs f c i) ++ zs.drop i
def mgC (zs : List Nat) (f c i : Nat) : Nat := mgV zs f c i / 4294967296 ^ i
theorem mgT_length {zs : List Nat} {f c i : Nat} (h : i ≤ zs.length) : (mgT zs f c i).length = zs.length := by
  simp [mgT, dgn_length]; omega
theorem mg_start (zs : List Nat) (f c : Nat) : mgT zs f c 0 = zs ∧ mgC zs f c 0 = c := by
  simp [mgT, mgC, mgV, nv, dgn]
theorem mgV_succ {zs : List Nat} {f c i : Nat} (h : i < zs.length) : mgV zs f c (i + 1) = mgV zs f c i + 4294967296 ^ i * (f * zs.getD i 0) := by
  unfold mgV
  rw [nv_take_succ zs i h]
  generalize 4294967296 ^ i = P
  grind
theorem mg_step {zs : List Nat} {f c i : Nat} (h : i < zs.length) : mgV zs f c (i + 1) / 4294967296 ^ i = mgC zs f c i + f * zs.getD i 0 := by
  rw [mgV_succ h, Nat.add_mul_div_left _ _ (pow_pos32 i)]; rfl
theorem mgC_succ {zs : List Nat} {f c i : Nat} (h : i < zs.length) : mgC zs f c (i + 1) = (zs.getD i 0 * f + mgC zs f c i) / 4294967296 := by
  have := mg_step (f := f) (c := c) h
  unfold mgC at *
  rw [div_pow_succ, this, Nat.mul_comm (zs.getD i 0)]
  congr 1; omega
theorem mgT_get {zs : List Nat} {f c i : Nat} (h : i < zs.length) : (mgT zs f c i).getD i 0 = zs.getD i 0 := by
  unfold mgT
  rw [List.getD_eq_getElem?_getD, List.getElem?_append_right (by rw [dgn_length]; exact Nat.le_refl _), dgn_length, Nat.sub_self, List.getElem?_drop, Nat.add_zero, ← List.getD_eq_getElem?_getD]
theorem mgT_set {zs : List Nat} {f c i : Nat} (h : i < zs.length) : (mgT zs f c i).set i ((zs.getD i 0 * f + mgC zs f c i) % 4294967296) = mgT zs f c (i + 1) := by
  have st := mg_step (f := f) (c := c) h
  unfold mgT
  rw [dgn_succ, st, mgV_succ h, dgn_mod]
  rw [List.set_append_right _ _ (by rw [dgn_length]; exact Nat.le_refl _), dgn_length, Nat.sub_self, List.drop_eq_getElem_cons h]
  have e : zs.getD i 0 * f + mgC zs f c i = mgC zs f c i + f * zs.getD i 0 := by rw [Nat.mul_comm (zs.getD i 0)]; omega
  rw [e, List.set_cons_zero, List.append_assoc, List.singleton_append]
theorem mgC_lt {zs : List Nat} {f c i : Nat} (hz : Dig zs) (hc : c < f) (hf : f < 4294967296) (h : i ≤ zs.length) : mgC zs f c i < 4294967296 := by
  unfold mgC
  rw [Nat.div_lt_iff_lt_mul (pow_pos32 i)]
  have b := nv_lt (hz.take i)
  rw [show (zs.take i).length = i by simp; omega] at b
  unfold mgV
  have h1 : f * nv (zs.take i) ≤ f * (4294967296 ^ i - 1) := Nat.mul_le_mul_left _ (by omega)
  have h2 : f * (4294967296 ^ i - 1) + f = f * 4294967296 ^ i := by
    have := pow_pos32 i
    rw [← Nat.mul_succ]; congr 1; omega
  have h3 : f * 4294967296 ^ i ≤ 4294967296 * 4294967296 ^ i := Nat.mul_le_mul_right _ (by omega)
  omega
theorem mgT_dig {zs : List Nat} {f c i : Nat} (hz : Dig zs) : Dig (mgT zs f c i) := Dig.app.2 ⟨dgn_dig _ _, hz.drop i⟩
/-- the digits behind the call -/
def mgR (zs : List Nat) (f c : Nat) : List Nat := mgT zs f c zs.length ++ (if 0 < mgC zs f c zs.length then [mgC zs f c zs.length] else [])
theorem mgR_val {zs : List Nat} {f c : Nat} (hz : Dig zs) (hc : c < f) (hf : f < 4294967296) : nv (mgR zs f c) = c + f * nv zs ∧ Dig (mgR zs f c) ∧ (mgR zs f c).length ≤ zs.length + 1 := by
  have hl := mgC_lt hz hc hf (Nat.le_refl zs.length)
  have e : mgT zs f c zs.length = dgn zs.length (c + f * nv zs) := by
    unfold mgT mgV; rw [List.drop_length, List.append_nil, List.take_length]
  have e2 : mgC zs f c zs.length = (c + f * nv zs) / 4294967296 ^ zs.length := by unfold mgC mgV; rw [List.take_length]
  refine ⟨?_, ?_, ?_⟩
  · unfold mgR
    rw [nv_append, e, nv_dgn, dgn_length]
    have hm := Nat.mod_add_div (c + f * nv zs) (4294967296 ^ zs.length)
    rw [← e2] at hm
    split
    · rw [show nv [mgC zs f c zs.length] = mgC zs f c zs.length by simp [nv]]; exact hm
    · have h0 : mgC zs f c zs.length = 0 := by omega
      rw [h0] at hm
      simpa [nv] using hm
  · unfold mgR
    refine Dig.app.2 ⟨mgT_dig hz, ?_⟩
    split
    · exact Dig.cons.2 ⟨hl, Dig.nil⟩
    · exact Dig.nil
  · unfold mgR
    rw [List.length_append, mgT_length (Nat.le_refl _)]
    split <;> simp
theorem dvl_take {L : List Nat} {i : Nat} (h : i < L.length) : dvl (L.take (i + 1)) = 10 * dvl (L.take i) + (L.getD i 0 - 48) := by
  rw [List.take_succ_eq_append_getElem h, dvl_app, List.getD_eq_getElem?_getD, List.getElem?_eq_getElem h]; rfl
theorem dvl_lt {L : List Nat} (h : allD L = true) : ∀ i, i ≤ L.length → dvl (L.take i) < 10 ^ i
  | 0, _ => by simp [dvl]
  | i + 1, hi => by
    have ih := dvl_lt h i (by omega)
    have hd := allD_get h (i := i) (by omega)
    rw [dvl_take (by omega), Nat.pow_succ]
    omega
def d_mag (full : Bool) (zs : List Nat) : Heap := [some ⟨48, u32s zs, full⟩]
def lp_agA (full : Bool) (zs : List Nat) (g : ByteArray) : LoopO := loopRuleD (α := Nat) (β := Unit) (fun i => i ≤ g.size)
  (fun i => [(0, d_sE zs.length), (1, .v (.string g)), (5, .v (.int .u64 ((10 ^ i : Nat) : Int))), (6, .v (.int .u64 (dvl ((bys g).take i) : Nat))), (12, .v (.int .i64 (g.size : Int))), (13, .v (.int .i64 (i : Int)))])
  (fun i => d_mag full zs) 0 (fun _ => True) (fun _ => (.exit 0, [(0, d_sE zs.length), (5, .v (.int .u64 ((10 ^ g.size : Nat) : Int))), (6, .v (.int .u64 (dvl (bys g) : Nat)))], d_mag full zs))
theorem agA_rule (full : Bool) (zs : List Nat) (g : ByteArray) (hpre : (allD (bys g) = true ∧ g.size ≤ 9) ∧ zs.length ≤ 100000 ∧ Dig zs) : LRule Try.prog Try.f76.ntmps (loopAt ((Try.f76.body).getD .skip) 3) (lp_agA full zs g) := by
  refine lruleD_of (α := Nat) (β := Unit) (call := noCalls) (lp := fun _ => none) (N := 10) T_ok mixed noCalls_ok (fun i => g.size - i) (by kernel_rfl) (LpAll.none _) ?_
  intro i hJ
  refine of_eq (B := (True ∧ (pcond (Decidable.decide (((i : Nat) : Int) < (((ByteArray.size g) : Nat) : Int))) (True ∧ (True ∧ (True ∧ (True ∧ (True ∧ (True ∧ (True ∧ (True ∧ (True ∧ ((((0 : Int) ≤ ((i : Nat) : Int)) ∧ (((i : Nat) : Int) < (((ByteArray.size g) : Nat) : Int))) ∧ (True ∧ (True ∧ (True ∧ (True ∧ (True ∧ (True ∧ (∃ (y : Nat), ((((ByteArray.size g) - y) < ((ByteArray.size g) - i)) ∧ ((y ≤ (ByteArray.size g)) ∧ ((((Option.some (D.sl (0 : Nat) (0 : Nat) (List.length zs) (Cap.toEnd (1 : Nat)))) = (Option.some (D.sl (0 : Nat) (0 : Nat) (List.length zs) (Cap.toEnd (1 : Nat))))) ∧ (((Option.some (D.v (Value.string g))) = (Option.some (D.v (Value.string g)))) ∧ (((Option.some (D.v (Value.int IntKind.u64 (IntKind.wrap IntKind.u64 (((((10 : Nat) ^ i) : Nat) : Int) * (10 : Int)))))) = (Option.some (D.v (Value.int IntKind.u64 ((((10 : Nat) ^ y) : Nat) : Int))))) ∧ (((Option.some (D.v (Value.int IntKind.u64 (IntKind.wrap IntKind.u64 ((IntKind.wrap IntKind.u64 ((((dvl (List.take i (bys g))) : Nat) : Int) * (10 : Int))) + (IntKind.wrap IntKind.u64 (IntKind.wrap IntKind.u8 ((((UInt8.toNat (List.getD (Array.toList (ByteArray.data g)) (Int.toNat ((i : Nat) : Int)) (0 : UInt8))) : Nat) : Int) - (48 : Int))))))))) = (Option.some (D.v (Value.int IntKind.u64 (((dvl (List.take y (bys g))) : Nat) : Int))))) ∧ (((Option.some (D.v (Value.int IntKind.i64 (((ByteArray.size g) : Nat) : Int)))) = (Option.some (D.v (Value.int IntKind.i64 (((ByteArray.size g) : Nat) : Int))))) ∧ (((Option.some (D.v (Value.int IntKind.i64 (IntKind.wrap IntKind.i64 (((i : Nat) : Int) + (1 : Int)))))) = (Option.some (D.v (Value.int IntKind.i64 ((y : Nat) : Int))))) ∧ True)))))) ∧ ([(Option.some (Blk.mk (48 : Nat) (u32s zs) full))] = [(Option.some (Blk.mk (48 : Nat) (u32s zs) full))]))))))))))))))))))))) (∃ (r : Unit), (True ∧ (((Exit.exit (0 : Nat)) = (Exit.exit (0 : Nat))) ∧ ((((Option.some (D.sl (0 : Nat) (0 : Nat) (List.length zs) (Cap.toEnd (1 : Nat)))) = (Option.some (D.sl (0 : Nat) (0 : Nat) (List.length zs) (Cap.toEnd (1 : Nat))))) ∧ (((Option.some (D.v (Value.int IntKind.u64 ((((10 : Nat) ^ i) : Nat) : Int)))) = (Option.some (D.v (Value.int IntKind.u64 ((((10 : Nat) ^ (ByteArray.size g)) : Nat) : Int))))) ∧ (((Option.some (D.v (Value.int IntKind.u64 (((dvl (List.take i (bys g))) : Nat) : Int)))) = (Option.some (D.v (Value.int IntKind.u64 (((dvl (bys g)) : Nat) : Int))))) ∧ True))) ∧ ([(Option.some (Blk.mk (48 : Nat) (u32s zs) full))] = [(Option.some (Blk.mk (48 : Nat) (u32s zs) full))])))))))) (by kernel_rfl) ?_
  simp only [true_and, and_true, and_self, IsInt_lit, IsBool_lit, IsStr_lit, Bool.not_eq_true', Bool.not_eq_false', Bool.not_true, Bool.not_false, Int.reduceLE, Int.reduceLT, Int.reduceNeg, Nat.le_refl, Int.le_refl, Nat.reduceLT, Nat.reduceLeDiff, Nat.reduceEqDiff, D.v.injEq, D.tup.injEq, D.agg.injEq, D.ro.injEq, List.cons.injEq, Value.int.injEq, Value.bool.injEq, pcond_true, pcond_false, NamelessL, Nameless, Nat.reduceMul, Nat.reduceAdd, Nat.zero_add, Int.toNat_natCast, bys_get]
  obtain ⟨⟨hg, hg9⟩, hl, hz⟩ := hpre
  have hsz := bys_length g
  refine pcond_intro (fun h => ?_) (fun h => ?_)
  · simp only [decide_eq_true_eq] at h
    have hd := allD_get hg (i := i) (by omega)
    have ht := dvl_take (L := bys g) (i := i) (by omega)
    have hlt := dvl_lt hg i (by omega)
    have hp : 10 ^ i ≤ 10 ^ 9 := Nat.pow_le_pow_right (by decide) (by omega)
    have hps : 10 ^ (i + 1) = 10 ^ i * 10 := Nat.pow_succ 10 i
    simp only [Nat.reducePow] at hp
    generalize (bys g).getD i 0 = c at *
    have e3 : IntKind.i64.wrap ((i : Int) + 1) = ((i + 1 : Nat) : Int) := by rw [wrap_i64_of (by omega) (by omega)]; omega
    refine ⟨⟨by omega, by omega⟩, i + 1, by omega, by omega, ?_, ?_, by rw [e3]⟩
    · rw [hps]
      generalize 10 ^ i = P at *
      congr 3
      rw [wrap_u64]; omega
    · rw [ht]
      generalize dvl ((bys g).take i) = d at *
      generalize 10 ^ i = P at *
      congr 3
      rw [wrap_u64, wrap_u64, wrap_u64, Go.VD.wrap_u8]; omega
  · simp only [decide_eq_false_iff_not] at h
    have : i = g.size := by omega
    subst this
    refine ⟨(), rfl, ?_⟩
    rw [← hsz, List.take_length]
def lp_agB (full : Bool) (zs : List Nat) (f c : Nat) : LoopO := loopRuleD (α := Nat) (β := Unit) (fun i => i ≤ zs.length)
  (fun i => [(0, d_sE zs.length), (5, .v (.int .u64 (f : Int))), (6, .v (.int .u64 (mgC zs f c i : Nat))), (27, d_sE zs.length), (28, .v (.int .i64 (zs.length : Int))), (29, .v (.int .i64 (i : Int)))])
  (fun i => d_mag full (mgT zs f c i)) 0 (fun _ => True) (fun _ => (.exit 2, [(0, d_sE zs.length), (6, .v (.int .u64 (mgC zs f c zs.length : Nat)))], d_mag full (mgT zs f c zs.length)))
theorem agB_rule (full : Bool) (zs : List Nat) (f c : Nat) (hpre : (c < f ∧ f < 4294967296) ∧ zs.length ≤ 100000 ∧ Dig zs) : LRule Try.prog Try.f76.ntmps (loopAt ((Try.f76.body).getD .skip) 9) (lp_agB full zs f c) := by
  refine lruleD_of (α := Nat) (β := Unit) (call := noCalls) (lp := fun _ => none) (N := 10) T_ok mixed noCalls_ok (fun i => zs.length - i) (by kernel_rfl) (LpAll.none _) ?_
  intro i hJ
  refine of_eq (B := (True ∧ (pcond (Decidable.decide (((i : Nat) : Int) < (((List.length zs) : Nat) : Int))) (True ∧ ((((0 : Int) ≤ ((i : Nat) : Int)) ∧ (((i : Nat) : Int) < (((List.length zs) : Nat) : Int))) ∧ (((((0 : Nat) + ((Int.toNat ((i : Nat) : Int)) * (1 : Nat))) < (List.length (u32s (mgT zs f c i)))) ∧ (IsInt IntKind.u32 (List.getD (u32s (mgT zs f c i)) ((0 : Nat) + ((Int.toNat ((i : Nat) : Int)) * (1 : Nat))) (Inhabited.default)))) ∧ (True ∧ (True ∧ (True ∧ (True ∧ (True ∧ (True ∧ (True ∧ (True ∧ (True ∧ (True ∧ (True ∧ (True ∧ (True ∧ (True ∧ (((0 : Int) ≤ (32 : Int)) ∧ ((((0 : Int) ≤ ((i : Nat) : Int)) ∧ (((i : Nat) : Int) < (((List.length zs) : Nat) : Int))) ∧ ((((1 : Nat) = (1 : Nat)) ∧ ((((0 : Nat) + ((Int.toNat ((i : Nat) : Int)) * (1 : Nat))) + (1 : Nat)) ≤ (List.length (u32s (mgT zs f c i))))) ∧ (True ∧ (True ∧ (True ∧ (∃ (y : Nat), ((((List.length zs) - y) < ((List.length zs) - i)) ∧ ((y ≤ (List.length zs)) ∧ ((((Option.some (D.sl (0 : Nat) (0 : Nat) (List.length zs) (Cap.toEnd (1 : Nat)))) = (Option.some (D.sl (0 : Nat) (0 : Nat) (List.length zs) (Cap.toEnd (1 : Nat))))) ∧ (((Option.some (D.v (Value.int IntKind.u64 ((f : Nat) : Int)))) = (Option.some (D.v (Value.int IntKind.u64 ((f : Nat) : Int))))) ∧ (((Option.some (D.v (Value.int IntKind.u64 (Int.fdiv (IntKind.wrap IntKind.u64 ((IntKind.wrap IntKind.u64 ((IntKind.wrap IntKind.u64 (cellInt (List.getD (u32s (mgT zs f c i)) ((0 : Nat) + ((Int.toNat ((i : Nat) : Int)) * (1 : Nat))) (Inhabited.default)))) * ((f : Nat) : Int))) + (((mgC zs f c i) : Nat) : Int))) (4294967296 : Int))))) = (Option.some (D.v (Value.int IntKind.u64 (((mgC zs f c y) : Nat) : Int))))) ∧ (((Option.some (D.sl (0 : Nat) (0 : Nat) (List.length zs) (Cap.toEnd (1 : Nat)))) = (Option.some (D.sl (0 : Nat) (0 : Nat) (List.length zs) (Cap.toEnd (1 : Nat))))) ∧ (((Option.some (D.v (Value.int IntKind.i64 (((List.length zs) : Nat) : Int)))) = (Option.some (D.v (Value.int IntKind.i64 (((List.length zs) : Nat) : Int))))) ∧ (((Option.some (D.v (Value.int IntKind.i64 (IntKind.wrap IntKind.i64 (((i : Nat) : Int) + (1 : Int)))))) = (Option.some (D.v (Value.int IntKind.i64 ((y : Nat) : Int))))) ∧ True)))))) ∧ ([(Option.some (Blk.mk (48 : Nat) (List.set (u32s (mgT zs f c i)) ((0 : Nat) + ((Int.toNat ((i : Nat) : Int)) * (1 : Nat))) (D.v (Value.int IntKind.u32 (IntKind.wrap IntKind.u32 (IntKind.wrap IntKind.u64 ((IntKind.wrap IntKind.u64 ((IntKind.wrap IntKind.u64 (cellInt (List.getD (u32s (mgT zs f c i)) ((0 : Nat) + ((Int.toNat ((i : Nat) : Int)) * (1 : Nat))) (Inhabited.default)))) * ((f : Nat) : Int))) + (((mgC zs f c i) : Nat) : Int))))))) full))] = [(Option.some (Blk.mk (48 : Nat) (u32s (mgT zs f c y)) full))])))))))))))))))))))))))))))) (∃ (r : Unit), (True ∧ (((Exit.exit (2 : Nat)) = (Exit.exit (2 : Nat))) ∧ ((((Option.some (D.sl (0 : Nat) (0 : Nat) (List.length zs) (Cap.toEnd (1 : Nat)))) = (Option.some (D.sl (0 : Nat) (0 : Nat) (List.length zs) (Cap.toEnd (1 : Nat))))) ∧ (((Option.some (D.v (Value.int IntKind.u64 (((mgC zs f c i) : Nat) : Int)))) = (Option.some (D.v (Value.int IntKind.u64 (((mgC zs f c (List.length zs)) : Nat) : Int))))) ∧ True)) ∧ ([(Option.some (Blk.mk (48 : Nat) (u32s (mgT zs f c i)) full))] = [(Option.some (Blk.mk (48 : Nat) (u32s (mgT zs f c (List.length zs))) full))])))))))) (by kernel_rfl) ?_
  simp only [true_and, and_true, and_self, IsInt_lit, IsBool_lit, IsStr_lit, Bool.not_eq_true', Bool.not_eq_false', Bool.not_true, Bool.not_false, Int.reduceLE, Int.reduceLT, Int.reduceNeg, Nat.le_refl, Int.le_refl, Nat.reduceLT, Nat.reduceLeDiff, Nat.reduceEqDiff, D.v.injEq, D.tup.injEq, D.agg.injEq, D.ro.injEq, List.cons.injEq, Value.int.injEq, Value.bool.injEq, pcond_true, pcond_false, NamelessL, Nameless, Nat.reduceMul, Nat.reduceAdd, Nat.zero_add, Int.toNat_natCast]
  obtain ⟨⟨hc, hf⟩, hl, hz⟩ := hpre
  refine pcond_intro (fun h => ?_) (fun h => ?_)
  · simp only [decide_eq_true_eq] at h
    have h : i < zs.length := by omega
    have hlen := mgT_length (f := f) (c := c) hJ
    have hg := mgT_get (f := f) (c := c) h
    have hs := mgT_set (f := f) (c := c) h
    have hcs := mgC_succ (f := f) (c := c) h
    have hcl := mgC_lt hz hc hf hJ
    have hx := hz.get i
    have hb := mul32 (c := 0) hx hf (by omega) hcl
    have e3 : IntKind.i64.wrap ((i : Int) + 1) = ((i + 1 : Nat) : Int) := by rw [wrap_i64_of (by omega) (by omega)]; omega
    simp only [e3, Nat.mul_one, u32s_cell, u32s_length, hlen, hg, u32s_isInt (mgT zs f c i) i (by omega), and_true]
    have e1 : IntKind.u64.wrap (IntKind.u64.wrap (IntKind.u64.wrap (zs.getD i 0 : Int) * (f : Int)) + (mgC zs f c i : Nat)) = ((zs.getD i 0 * f + mgC zs f c i : Nat) : Int) := by
      have e0 : ((zs.getD i 0 : Nat) : Int) * (f : Int) = ((zs.getD i 0 * f : Nat) : Int) := by rw [Int.natCast_mul]
      rw [show IntKind.u64.wrap (zs.getD i 0 : Int) = (zs.getD i 0 : Int) by rw [wrap_u64]; omega, e0]
      generalize zs.getD i 0 * f = m at *
      rw [wrap_u64, wrap_u64]; omega
    rw [e1]
    generalize zs.getD i 0 * f + mgC zs f c i = t at *
    have e2 : (t : Int).fdiv 4294967296 = ((t / 4294967296 : Nat) : Int) := by rw [Int.fdiv_eq_ediv_of_nonneg _ (by omega)]; omega
    have e4 : IntKind.u32.wrap (t : Int) = ((t % 4294967296 : Nat) : Int) := by rw [wrap_u32]; omega
    rw [e2, e4, u32s_put, hs, ← hcs]
    exact ⟨⟨by omega, by omega⟩, by omega, ⟨by omega, by omega⟩, by omega, i + 1, by omega, by omega, ⟨rfl, rfl⟩, rfl⟩
  · simp only [decide_eq_false_iff_not] at h
    have : i = zs.length := by omega
    subst this
    exact ⟨(), rfl, rfl⟩
theorem ag_same (zs : List Nat) (g : ByteArray) (hpre : (allD (bys g) = true ∧ g.size ≤ 9) ∧ zs.length ≤ 100000 ∧ Dig zs) (h0 : mgC zs (10 ^ g.size) (dvl (bys g)) zs.length = 0) : CallJ Try.prog 76 [d_sE zs.length, .v (.string g)] (d_mag false zs) (.sl 0 0 zs.length (.toEnd 1)) (d_mag false (mgT zs (10 ^ g.size) (dvl (bys g)) zs.length)) := by
  have hs := bys_length g
  have hlt := dvl_lt hpre.1.1 (bys g).length (Nat.le_refl _)
  rw [List.take_length, hs] at hlt
  have hp : 10 ^ g.size ≤ 10 ^ 9 := Nat.pow_le_pow_right (by decide) hpre.1.2
  simp only [Nat.reducePow] at hp
  refine callJ_same (call := noCalls) (lp := fun k' => bif Nat.beq k' 3 then some (lp_agA false zs g) else bif Nat.beq k' 9 then some (lp_agB false zs (10 ^ g.size) (dvl (bys g))) else none) (N := 10) T_ok mixed noCalls_ok Try.func76 rfl (by decide) (by kernel_rfl) (by kernel_rfl)
    (of_eq (B := LRule Try.prog Try.f76.ntmps (loopAt ((Try.f76.body).getD .skip) 3) (lp_agA false zs g) ∧ LRule Try.prog Try.f76.ntmps (loopAt ((Try.f76.body).getD .skip) 9) (lp_agB false zs (10 ^ g.size) (dvl (bys g))) ∧ True) (by kernel_rfl) ⟨agA_rule false zs g hpre, agB_rule false zs _ _ ⟨⟨hlt, by omega⟩, hpre.2⟩, trivial⟩) ?_
  refine of_eq (B := (True ∧ (True ∧ (True ∧ (True ∧ (True ∧ (True ∧ (((0 : Nat) ≤ (ByteArray.size g)) ∧ ((((Option.some (D.sl (0 : Nat) (0 : Nat) (List.length zs) (Cap.toEnd (1 : Nat)))) = (Option.some (D.sl (0 : Nat) (0 : Nat) (List.length zs) (Cap.toEnd (1 : Nat))))) ∧ (((Option.some (D.v (Value.string g))) = (Option.some (D.v (Value.string g)))) ∧ (((Option.some (D.v (Value.int IntKind.u64 (1 : Int)))) = (Option.some (D.v (Value.int IntKind.u64 (1 : Int))))) ∧ (((Option.some (D.v (Value.int IntKind.u64 (0 : Int)))) = (Option.some (D.v (Value.int IntKind.u64 (((dvl ([] : List Nat)) : Nat) : Int))))) ∧ (((Option.some (D.v (Value.int IntKind.i64 (((ByteArray.size g) : Nat) : Int)))) = (Option.some (D.v (Value.int IntKind.i64 (((ByteArray.size g) : Nat) : Int))))) ∧ (((Option.some (D.v (Value.int IntKind.i64 (0 : Int)))) = (Option.some (D.v (Value.int IntKind.i64 (0 : Int))))) ∧ True)))))) ∧ (([(Option.some (Blk.mk (48 : Nat) (u32s zs) Bool.false))] = [(Option.some (Blk.mk (48 : Nat) (u32s zs) Bool.false))]) ∧ (Unit → (True → (True ∧ (True ∧ (True ∧ (((0 : Nat) ≤ (List.length zs)) ∧ ((((Option.some (D.sl (0 : Nat) (0 : Nat) (List.length zs) (Cap.toEnd (1 : Nat)))) = (Option.some (D.sl (0 : Nat) (0 : Nat) (List.length zs) (Cap.toEnd (1 : Nat))))) ∧ (((Option.some (D.v (Value.int IntKind.u64 ((((10 : Nat) ^ (ByteArray.size g)) : Nat) : Int)))) = (Option.some (D.v (Value.int IntKind.u64 ((((10 : Nat) ^ (ByteArray.size g)) : Nat) : Int))))) ∧ (((Option.some (D.v (Value.int IntKind.u64 (((dvl (bys g)) : Nat) : Int)))) = (Option.some (D.v (Value.int IntKind.u64 (((mgC zs ((10 : Nat) ^ (ByteArray.size g)) (dvl (bys g)) (0 : Nat)) : Nat) : Int))))) ∧ (((Option.some (D.sl (0 : Nat) (0 : Nat) (List.length zs) (Cap.toEnd (1 : Nat)))) = (Option.some (D.sl (0 : Nat) (0 : Nat) (List.length zs) (Cap.toEnd (1 : Nat))))) ∧ (((Option.some (D.v (Value.int IntKind.i64 (((List.length zs) : Nat) : Int)))) = (Option.some (D.v (Value.int IntKind.i64 (((List.length zs) : Nat) : Int))))) ∧ (((Option.some (D.v (Value.int IntKind.i64 (0 : Int)))) = (Option.some (D.v (Value.int IntKind.i64 (0 : Int))))) ∧ True)))))) ∧ (([(Option.some (Blk.mk (48 : Nat) (u32s zs) Bool.false))] = [(Option.some (Blk.mk (48 : Nat) (u32s (mgT zs ((10 : Nat) ^ (ByteArray.size g)) (dvl (bys g)) (0 : Nat))) Bool.false))]) ∧ (Unit → (True → (True ∧ (True ∧ (pcond (Decidable.decide ((0 : Int) < (((mgC zs ((10 : Nat) ^ (ByteArray.size g)) (dvl (bys g)) (List.length zs)) : Nat) : Int))) (True ∧ (True ∧ (True ∧ ((((1 : Nat) ≤ (16777216 : Nat)) ∧ ((1 : Nat) ≤ (9223372036854775807 : Nat))) ∧ ((((1 : Nat) ≤ (1 : Nat)) ∧ (((22 : Nat) = (22 : Nat)) ∧ (((1 : Nat) = (1 : Nat)) ∧ (((48 : Nat) = (48 : Nat)) ∧ ((((List.length zs) * (1 : Nat)) ≤ (List.length (u32s (mgT zs ((10 : Nat) ^ (ByteArray.size g)) (dvl (bys g)) (List.length zs))))) ∧ (((0 : Nat) < (1 : Nat)) ∧ ((((List.length zs) + (1 : Nat)) ≤ (9223372036854775807 : Nat)) ∧ ((((List.length zs) + (1 : Nat)) * (4 : Nat)) ≤ (140737488355328 : Nat))))))))) ∧ (True ∧ (True ∧ (True ∧ (True ∧ (((D.sl (2 : Nat) (0 : Nat) ((List.length zs) + (1 : Nat)) (Cap.toEnd (1 : Nat))) = (D.sl (0 : Nat) (0 : Nat) (List.length zs) (Cap.toEnd (1 : Nat)))) ∧ ([(Option.none), (Option.some (Blk.mk (48 : Nat) [(D.v (Value.int IntKind.u32 (IntKind.wrap IntKind.u32 (((mgC zs ((10 : Nat) ^ (ByteArray.size g)) (dvl (bys g)) (List.length zs)) : Nat) : Int))))] Bool.true)), (Option.some (Blk.mk (48 : Nat) ((List.take ((List.length zs) * (1 : Nat)) (u32s (mgT zs ((10 : Nat) ^ (ByteArray.size g)) (dvl (bys g)) (List.length zs)))) ++ [(D.v (Value.int IntKind.u32 (IntKind.wrap IntKind.u32 (((mgC zs ((10 : Nat) ^ (ByteArray.size g)) (dvl (bys g)) (List.length zs)) : Nat) : Int))))]) Bool.false))] = [(Option.some (Blk.mk (48 : Nat) (u32s (mgT zs ((10 : Nat) ^ (ByteArray.size g)) (dvl (bys g)) (List.length zs))) Bool.false))]))))))))))) (True ∧ (True ∧ (True ∧ (((D.sl (0 : Nat) (0 : Nat) (List.length zs) (Cap.toEnd (1 : Nat))) = (D.sl (0 : Nat) (0 : Nat) (List.length zs) (Cap.toEnd (1 : Nat)))) ∧ ([(Option.some (Blk.mk (48 : Nat) (u32s (mgT zs ((10 : Nat) ^ (ByteArray.size g)) (dvl (bys g)) (List.length zs))) Bool.false))] = [(Option.some (Blk.mk (48 : Nat) (u32s (mgT zs ((10 : Nat) ^ (ByteArray.size g)) (dvl (bys g)) (List.length zs))) Bool.false))])))))))))))))))))))))))))))) (by kernel_rfl) ?_
  simp only [true_and, and_true, and_self, IsInt_lit, IsBool_lit, IsStr_lit, Bool.not_eq_true', Bool.not_eq_false', Bool.not_true, Bool.not_false, Int.reduceLE, Int.reduceLT, Int.reduceNeg, Nat.le_refl, Int.le_refl, Nat.reduceLT, Nat.reduceLeDiff, Nat.reduceEqDiff, D.v.injEq, D.tup.injEq, D.agg.injEq, D.ro.injEq, List.cons.injEq, Value.int.injEq, Value.bool.injEq, pcond_true, pcond_false, NamelessL, Nameless, Nat.reduceMul, Nat.reduceAdd, Nat.zero_add, Int.toNat_natCast, h0]
  obtain ⟨m1, m2⟩ := mg_start zs (10 ^ g.size) (dvl (bys g))
  refine ⟨Nat.zero_le _, rfl, fun _ _ => ⟨Nat.zero_le _, by rw [m2], by rw [m1], fun _ _ => pcond_intro (fun h => by simp at h) (fun _ => trivial)⟩⟩
theorem ag_grow (zs : List Nat) (g : ByteArray) (hpre : (allD (bys g) = true ∧ g.size ≤ 9) ∧ zs.length ≤ 100000 ∧ Dig zs) (h0 : 0 < mgC zs (10 ^ g.size) (dvl (bys g)) zs.length) : CallJ Try.prog 76 [d_sE zs.length, .v (.string g)] (d_mag false zs) (.sl 1 0 (zs.length + 1) (.toEnd 1)) [none, some ⟨48, u32s (mgT zs (10 ^ g.size) (dvl (bys g)) zs.length ++ [mgC zs (10 ^ g.size) (dvl (bys g)) zs.length]), false⟩] := by
  have hs := bys_length g
  have hlt := dvl_lt hpre.1.1 (bys g).length (Nat.le_refl _)
  rw [List.take_length, hs] at hlt
  have hp : 10 ^ g.size ≤ 10 ^ 9 := Nat.pow_le_pow_right (by decide) hpre.1.2
  simp only [Nat.reducePow] at hp
  refine callJ_third (call := noCalls) (lp := fun k' => bif Nat.beq k' 3 then some (lp_agA false zs g) else bif Nat.beq k' 9 then some (lp_agB false zs (10 ^ g.size) (dvl (bys g))) else none) (N := 10) T_ok mixed noCalls_ok Try.func76 rfl (by decide) (by kernel_rfl) (by kernel_rfl)
    (of_eq (B := LRule Try.prog Try.f76.ntmps (loopAt ((Try.f76.body).getD .skip) 3) (lp_agA false zs g) ∧ LRule Try.prog Try.f76.ntmps (loopAt ((Try.f76.body).getD .skip) 9) (lp_agB false zs (10 ^ g.size) (dvl (bys g))) ∧ True) (by kernel_rfl) ⟨agA_rule false zs g hpre, agB_rule false zs _ _ ⟨⟨hlt, by omega⟩, hpre.2⟩, trivial⟩) (u32s_nameless _) ?_
  refine of_eq (B := (True ∧ (True ∧ (True ∧ (True ∧ (True ∧ (True ∧ (((0 : Nat) ≤ (ByteArray.size g)) ∧ ((((Option.some (D.sl (0 : Nat) (0 : Nat) (List.length zs) (Cap.toEnd (1 : Nat)))) = (Option.some (D.sl (0 : Nat) (0 : Nat) (List.length zs) (Cap.toEnd (1 : Nat))))) ∧ (((Option.some (D.v (Value.string g))) = (Option.some (D.v (Value.string g)))) ∧ (((Option.some (D.v (Value.int IntKind.u64 (1 : Int)))) = (Option.some (D.v (Value.int IntKind.u64 (1 : Int))))) ∧ (((Option.some (D.v (Value.int IntKind.u64 (0 : Int)))) = (Option.some (D.v (Value.int IntKind.u64 (((dvl ([] : List Nat)) : Nat) : Int))))) ∧ (((Option.some (D.v (Value.int IntKind.i64 (((ByteArray.size g) : Nat) : Int)))) = (Option.some (D.v (Value.int IntKind.i64 (((ByteArray.size g) : Nat) : Int))))) ∧ (((Option.some (D.v (Value.int IntKind.i64 (0 : Int)))) = (Option.some (D.v (Value.int IntKind.i64 (0 : Int))))) ∧ True)))))) ∧ (([(Option.some (Blk.mk (48 : Nat) (u32s zs) Bool.false))] = [(Option.some (Blk.mk (48 : Nat) (u32s zs) Bool.false))]) ∧ (Unit → (True → (True ∧ (True ∧ (True ∧ (((0 : Nat) ≤ (List.length zs)) ∧ ((((Option.some (D.sl (0 : Nat) (0 : Nat) (List.length zs) (Cap.toEnd (1 : Nat)))) = (Option.some (D.sl (0 : Nat) (0 : Nat) (List.length zs) (Cap.toEnd (1 : Nat))))) ∧ (((Option.some (D.v (Value.int IntKind.u64 ((((10 : Nat) ^ (ByteArray.size g)) : Nat) : Int)))) = (Option.some (D.v (Value.int IntKind.u64 ((((10 : Nat) ^ (ByteArray.size g)) : Nat) : Int))))) ∧ (((Option.some (D.v (Value.int IntKind.u64 (((dvl (bys g)) : Nat) : Int)))) = (Option.some (D.v (Value.int IntKind.u64 (((mgC zs ((10 : Nat) ^ (ByteArray.size g)) (dvl (bys g)) (0 : Nat)) : Nat) : Int))))) ∧ (((Option.some (D.sl (0 : Nat) (0 : Nat) (List.length zs) (Cap.toEnd (1 : Nat)))) = (Option.some (D.sl (0 : Nat) (0 : Nat) (List.length zs) (Cap.toEnd (1 : Nat))))) ∧ (((Option.some (D.v (Value.int IntKind.i64 (((List.length zs) : Nat) : Int)))) = (Option.some (D.v (Value.int IntKind.i64 (((List.length zs) : Nat) : Int))))) ∧ (((Option.some (D.v (Value.int IntKind.i64 (0 : Int)))) = (Option.some (D.v (Value.int IntKind.i64 (0 : Int))))) ∧ True)))))) ∧ (([(Option.some (Blk.mk (48 : Nat) (u32s zs) Bool.false))] = [(Option.some (Blk.mk (48 : Nat) (u32s (mgT zs ((10 : Nat) ^ (ByteArray.size g)) (dvl (bys g)) (0 : Nat))) Bool.false))]) ∧ (Unit → (True → (True ∧ (True ∧ (pcond (Decidable.decide ((0 : Int) < (((mgC zs ((10 : Nat) ^ (ByteArray.size g)) (dvl (bys g)) (List.length zs)) : Nat) : Int))) (True ∧ (True ∧ (True ∧ ((((1 : Nat) ≤ (16777216 : Nat)) ∧ ((1 : Nat) ≤ (9223372036854775807 : Nat))) ∧ ((((1 : Nat) ≤ (1 : Nat)) ∧ (((22 : Nat) = (22 : Nat)) ∧ (((1 : Nat) = (1 : Nat)) ∧ (((48 : Nat) = (48 : Nat)) ∧ ((((List.length zs) * (1 : Nat)) ≤ (List.length (u32s (mgT zs ((10 : Nat) ^ (ByteArray.size g)) (dvl (bys g)) (List.length zs))))) ∧ (((0 : Nat) < (1 : Nat)) ∧ ((((List.length zs) + (1 : Nat)) ≤ (9223372036854775807 : Nat)) ∧ ((((List.length zs) + (1 : Nat)) * (4 : Nat)) ≤ (140737488355328 : Nat))))))))) ∧ (True ∧ (True ∧ (True ∧ (True ∧ (((D.sl (2 : Nat) (0 : Nat) ((List.length zs) + (1 : Nat)) (Cap.toEnd (1 : Nat))) = (D.sl (2 : Nat) (0 : Nat) ((List.length zs) + (1 : Nat)) (Cap.toEnd (1 : Nat)))) ∧ (∃ (x : (Option Blk)), ([(Option.none), (Option.some (Blk.mk (48 : Nat) [(D.v (Value.int IntKind.u32 (IntKind.wrap IntKind.u32 (((mgC zs ((10 : Nat) ^ (ByteArray.size g)) (dvl (bys g)) (List.length zs)) : Nat) : Int))))] Bool.true)), (Option.some (Blk.mk (48 : Nat) ((List.take ((List.length zs) * (1 : Nat)) (u32s (mgT zs ((10 : Nat) ^ (ByteArray.size g)) (dvl (bys g)) (List.length zs)))) ++ [(D.v (Value.int IntKind.u32 (IntKind.wrap IntKind.u32 (((mgC zs ((10 : Nat) ^ (ByteArray.size g)) (dvl (bys g)) (List.length zs)) : Nat) : Int))))]) Bool.false))] = [(Option.none), x, (Option.some (Blk.mk (48 : Nat) (u32s ((mgT zs ((10 : Nat) ^ (ByteArray.size g)) (dvl (bys g)) (List.length zs)) ++ [(mgC zs ((10 : Nat) ^ (ByteArray.size g)) (dvl (bys g)) (List.length zs))])) Bool.false))])))))))))))) (True ∧ (True ∧ (True ∧ (((D.sl (0 : Nat) (0 : Nat) (List.length zs) (Cap.toEnd (1 : Nat))) = (D.sl (2 : Nat) (0 : Nat) ((List.length zs) + (1 : Nat)) (Cap.toEnd (1 : Nat)))) ∧ (∃ (x : (Option Blk)), ([(Option.some (Blk.mk (48 : Nat) (u32s (mgT zs ((10 : Nat) ^ (ByteArray.size g)) (dvl (bys g)) (List.length zs))) Bool.false))] = [(Option.none), x, (Option.some (Blk.mk (48 : Nat) (u32s ((mgT zs ((10 : Nat) ^ (ByteArray.size g)) (dvl (bys g)) (List.length zs)) ++ [(mgC zs ((10 : Nat) ^ (ByteArray.size g)) (dvl (bys g)) (List.length zs))])) Bool.false))]))))))))))))))))))))))))))))) (by kernel_rfl) ?_
  simp only [true_and, and_true, and_self, IsInt_lit, IsBool_lit, IsStr_lit, Bool.not_eq_true', Bool.not_eq_false', Bool.not_true, Bool.not_false, Int.reduceLE, Int.reduceLT, Int.reduceNeg, Nat.le_refl, Int.le_refl, Nat.reduceLT, Nat.reduceLeDiff, Nat.reduceEqDiff, D.v.injEq, D.tup.injEq, D.agg.injEq, D.ro.injEq, List.cons.injEq, Value.int.injEq, Value.bool.injEq, pcond_true, pcond_false, NamelessL, Nameless, Nat.reduceMul, Nat.reduceAdd, Nat.zero_add, Int.toNat_natCast]
  obtain ⟨m1, m2⟩ := mg_start zs (10 ^ g.size) (dvl (bys g))
  have hcl := mgC_lt hpre.2.2 hlt (by omega) (Nat.le_refl zs.length)
  have hml := mgT_length (f := 10 ^ g.size) (c := dvl (bys g)) (Nat.le_refl zs.length)
  refine ⟨Nat.zero_le _, rfl, fun _ _ => ⟨Nat.zero_le _, by rw [m2], by rw [m1], fun _ _ => pcond_intro (fun _ => ⟨⟨by rw [u32s_length, hml]; omega, by omega, by omega⟩, _, rfl, ?_⟩) (fun h => ?_)⟩⟩
  · rw [Nat.mul_one, u32s_take, List.take_of_length_le (by omega), wrap_u32_of (by omega) (by omega), ← u32s_append]; rfl
  · simp only [decide_eq_false_iff_not] at h; omega
def entr_ag : EntR := fun off n c plain blk => match c, plain, blk with
  | .toEnd 1, [.v (.string g)], ⟨ty, cs, full⟩ => some (decide (0 < mgC (unu cs) (10 ^ g.size) (dvl (bys g)) (unu cs).length), (mgR (unu cs) (10 ^ g.size) (dvl (bys g))).length, ⟨ty, u32s (mgR (unu cs) (10 ^ g.size) (dvl (bys g))), false⟩,
      (((ty = 48 ∧ off = 0) ∧ full = false) ∧ cs = u32s (unu cs) ∧ n = (unu cs).length) ∧ (allD (bys g) = true ∧ g.size ≤ 9) ∧ (unu cs).length ≤ 100000 ∧ Dig (unu cs))
  | _, _, _ => none
theorem entr_ag_ok : EntROk Try.prog 76 entr_ag := by
  intro off n c plain blk gr m blk' p h hp
  unfold entr_ag at h
  split at h
  · rename_i g ty cs full
    simp only [Option.some.injEq, Prod.mk.injEq] at h
    obtain ⟨rfl, rfl, rfl, rfl⟩ := h
    obtain ⟨⟨⟨⟨rfl, rfl⟩, rfl⟩, hcs, hn⟩, hpre⟩ := hp
    generalize unu cs = zs at *
    subst hcs; subst hn
    have hml := mgT_length (f := 10 ^ g.size) (c := dvl (bys g)) (Nat.le_refl zs.length)
    refine ⟨⟨by simp [NamelessL, Nameless], u32s_nameless _, u32s_nameless _⟩, fun h0 => ?_, fun h0 => ?_⟩
    · simp only [decide_eq_false_iff_not] at h0
      have := ag_same zs g hpre (by omega)
      unfold mgR
      rw [if_neg h0, List.append_nil, hml]
      exact this
    · simp only [decide_eq_true_eq] at h0
      have := ag_grow zs g hpre h0
      unfold mgR
      rw [if_pos h0, List.length_append, hml]
      exact this
  · cases h
/-! ## The program's integers: Parse. -/
def dvlF (a : Nat) (L : List Nat) : Nat := L.foldl (fun v c => 10 * v + (c - 48)) a
theorem dvlF_app (a : Nat) (L M : List Nat) : dvlF a (L ++ M) = dvlF (dvlF a L) M := by simp [dvlF]
theorem dvlF_eq : ∀ (L : List Nat) (a : Nat), dvlF a L = dvl L + 10 ^ L.length * a
  | [], a => by simp [dvlF, dvl]
  | c :: L, a => by
    have h1 := dvlF_eq L (10 * a + (c - 48))
    have h2 := dvlF_eq L (10 * 0 + (c - 48))
    have e1 : dvlF a (c :: L) = dvlF (10 * a + (c - 48)) L := rfl
    have e2 : dvl (c :: L) = dvlF (10 * 0 + (c - 48)) L := rfl
    rw [e1, e2, h1, h2, List.length_cons, Nat.pow_succ]
    generalize 10 ^ L.length = P
    generalize c - 48 = k
    grind
theorem allD_take {L : List Nat} (h : allD L = true) (n : Nat) : allD (L.take n) = true := List.all_eq_true.2 fun c hc => List.all_eq_true.1 h c (List.mem_of_mem_take hc)
theorem allD_drop {L : List Nat} (h : allD L = true) (n : Nat) : allD (L.drop n) = true := List.all_eq_true.2 fun c hc => List.all_eq_true.1 h c (List.mem_of_mem_drop hc)
/-- what one loop is about: the value, the sign, the digits -/
abbrev PP := Nat × Bool × ByteArray
def lp_iparLoop (p : PP) : LoopO := loopRule (α := List Nat × ByteArray) (β := List Nat) [some 0, none] (fun s => (Dig s.1 ∧ s.1.length + s.2.size ≤ 4000) ∧ allD (bys s.2) = true ∧ dvlF (nv s.1) (bys s.2) = p.1) (fun s => [(2, .ptr 0 0), (4, .v (.string s.2)), (5, .v (.bool p.2.1)), (6, .sl 1 0 s.1.length (.toEnd 1))]) (fun s => [d_pb, some ⟨48, u32s s.1, false⟩]) (([], p.2.2)) (fun zs => (Dig zs ∧ zs.length ≤ 4000) ∧ nv zs = p.1) (fun zs => (.exit 0, [(2, .ptr 0 0), (5, .v (.bool p.2.1)), (6, .sl 1 0 zs.length (.toEnd 1))], [d_pb, some ⟨48, u32s zs, false⟩]))
theorem iparLoop_rule (p : PP) : LRuleP Try.prog Try.f45.ntmps (loopAt ((Try.f45.body).getD .skip) 7) (lp_iparLoop p) := by
  refine lrule_of (α := List Nat × ByteArray) (β := List Nat) (call := (addGrow 76 entr_ag noCalls)) (lp := fun _ => none) (N := 10) T_ok mixed (addGrow_ok entr_ag_ok noCalls_ok) (fun s => s.2.size) (by kernel_rfl) (LpAllP.none _) ?_
  intro x hJ
  refine of_eq (B := (True ∧ (True ∧ (True ∧ (pcond (Decidable.decide ((0 : Int) < (((ByteArray.size (Prod.snd x)) : Nat) : Int))) (True ∧ (True ∧ (True ∧ (((9 : Int) ≠ (0 : Int)) ∧ (True ∧ (True ∧ (True ∧ (True ∧ (True ∧ ((True ∧ ((((0 : Int) ≤ (IntKind.wrap IntKind.i64 ((Int.tmod (IntKind.wrap IntKind.i64 ((((ByteArray.size (Prod.snd x)) : Nat) : Int) - (1 : Int))) (9 : Int)) + (1 : Int)))) ∧ ((IntKind.wrap IntKind.i64 ((Int.tmod (IntKind.wrap IntKind.i64 ((((ByteArray.size (Prod.snd x)) : Nat) : Int) - (1 : Int))) (9 : Int)) + (1 : Int))) ≤ (((ByteArray.size (Prod.snd x)) : Nat) : Int))) ∧ True)) ∧ (((((((48 : Nat) = (48 : Nat)) ∧ ((0 : Nat) = (0 : Nat))) ∧ (Bool.false = Bool.false)) ∧ (((u32s (Prod.fst x)) = (u32s (unu (u32s (Prod.fst x))))) ∧ ((List.length (Prod.fst x)) = (List.length (unu (u32s (Prod.fst x))))))) ∧ ((((allD (bys (ByteArray.extract (Prod.snd x) (0 : Nat) (Int.toNat (IntKind.wrap IntKind.i64 ((Int.tmod (IntKind.wrap IntKind.i64 ((((ByteArray.size (Prod.snd x)) : Nat) : Int) - (1 : Int))) (9 : Int)) + (1 : Int))))))) = Bool.true) ∧ ((ByteArray.size (ByteArray.extract (Prod.snd x) (0 : Nat) (Int.toNat (IntKind.wrap IntKind.i64 ((Int.tmod (IntKind.wrap IntKind.i64 ((((ByteArray.size (Prod.snd x)) : Nat) : Int) - (1 : Int))) (9 : Int)) + (1 : Int)))))) ≤ (9 : Nat))) ∧ (((List.length (unu (u32s (Prod.fst x)))) ≤ (100000 : Nat)) ∧ (Dig (unu (u32s (Prod.fst x))))))) ∧ (pcond (Decidable.decide ((0 : Nat) < (mgC (unu (u32s (Prod.fst x))) ((10 : Nat) ^ (ByteArray.size (ByteArray.extract (Prod.snd x) (0 : Nat) (Int.toNat (IntKind.wrap IntKind.i64 ((Int.tmod (IntKind.wrap IntKind.i64 ((((ByteArray.size (Prod.snd x)) : Nat) : Int) - (1 : Int))) (9 : Int)) + (1 : Int))))))) (dvl (bys (ByteArray.extract (Prod.snd x) (0 : Nat) (Int.toNat (IntKind.wrap IntKind.i64 ((Int.tmod (IntKind.wrap IntKind.i64 ((((ByteArray.size (Prod.snd x)) : Nat) : Int) - (1 : Int))) (9 : Int)) + (1 : Int))))))) (List.length (unu (u32s (Prod.fst x))))))) (True ∧ (True ∧ (True ∧ (((((0 : Int) ≤ (IntKind.wrap IntKind.i64 ((Int.tmod (IntKind.wrap IntKind.i64 ((((ByteArray.size (Prod.snd x)) : Nat) : Int) - (1 : Int))) (9 : Int)) + (1 : Int)))) ∧ ((IntKind.wrap IntKind.i64 ((Int.tmod (IntKind.wrap IntKind.i64 ((((ByteArray.size (Prod.snd x)) : Nat) : Int) - (1 : Int))) (9 : Int)) + (1 : Int))) ≤ (((ByteArray.size (Prod.snd x)) : Nat) : Int))) ∧ (True ∧ True)) ∧ (True ∧ (∃ (y : (Prod (List Nat) ByteArray)), (∃ (kp : (List (Option Nat))), (((ByteArray.size (Prod.snd y)) < (ByteArray.size (Prod.snd x))) ∧ ((((Dig (Prod.fst y)) ∧ (((List.length (Prod.fst y)) + (ByteArray.size (Prod.snd y))) ≤ (4000 : Nat))) ∧ (((allD (bys (Prod.snd y))) = Bool.true) ∧ ((dvlF (nv (Prod.fst y)) (bys (Prod.snd y))) = (Prod.fst p)))) ∧ (viewAll kp [(Prod.mk (2 : Nat) (D.ptr (0 : Nat) (0 : Nat))), (Prod.mk (4 : Nat) (D.v (Value.string (ByteArray.extract (Prod.snd x) (Int.toNat (IntKind.wrap IntKind.i64 ((Int.tmod (IntKind.wrap IntKind.i64 ((((ByteArray.size (Prod.snd x)) : Nat) : Int) - (1 : Int))) (9 : Int)) + (1 : Int)))) (ByteArray.size (Prod.snd x)))))), (Prod.mk (5 : Nat) (D.v (Value.bool (Prod.fst (Prod.snd p))))), (Prod.mk (6 : Nat) (D.sl (2 : Nat) (0 : Nat) (List.length (mgR (unu (u32s (Prod.fst x))) ((10 : Nat) ^ (ByteArray.size (ByteArray.extract (Prod.snd x) (0 : Nat) (Int.toNat (IntKind.wrap IntKind.i64 ((Int.tmod (IntKind.wrap IntKind.i64 ((((ByteArray.size (Prod.snd x)) : Nat) : Int) - (1 : Int))) (9 : Int)) + (1 : Int))))))) (dvl (bys (ByteArray.extract (Prod.snd x) (0 : Nat) (Int.toNat (IntKind.wrap IntKind.i64 ((Int.tmod (IntKind.wrap IntKind.i64 ((((ByteArray.size (Prod.snd x)) : Nat) : Int) - (1 : Int))) (9 : Int)) + (1 : Int))))))))) (Cap.toEnd (1 : Nat))))] [(Option.some (Blk.mk (24 : Nat) [(D.v (Value.bool Bool.false)), (D.v (Value.slice (Option.none) (0 : Nat) (0 : Nat)))] Bool.true)), (Option.none), (Option.some (Blk.mk (48 : Nat) (u32s (mgR (unu (u32s (Prod.fst x))) ((10 : Nat) ^ (ByteArray.size (ByteArray.extract (Prod.snd x) (0 : Nat) (Int.toNat (IntKind.wrap IntKind.i64 ((Int.tmod (IntKind.wrap IntKind.i64 ((((ByteArray.size (Prod.snd x)) : Nat) : Int) - (1 : Int))) (9 : Int)) + (1 : Int))))))) (dvl (bys (ByteArray.extract (Prod.snd x) (0 : Nat) (Int.toNat (IntKind.wrap IntKind.i64 ((Int.tmod (IntKind.wrap IntKind.i64 ((((ByteArray.size (Prod.snd x)) : Nat) : Int) - (1 : Int))) (9 : Int)) + (1 : Int))))))))) Bool.false))] [(Prod.mk (2 : Nat) (D.ptr (0 : Nat) (0 : Nat))), (Prod.mk (4 : Nat) (D.v (Value.string (Prod.snd y)))), (Prod.mk (5 : Nat) (D.v (Value.bool (Prod.fst (Prod.snd p))))), (Prod.mk (6 : Nat) (D.sl (1 : Nat) (0 : Nat) (List.length (Prod.fst y)) (Cap.toEnd (1 : Nat))))] [d_pb, (Option.some (Blk.mk (48 : TypeId) (u32s (Prod.fst y)) Bool.false))])))))))))) (True ∧ (True ∧ (True ∧ (((((0 : Int) ≤ (IntKind.wrap IntKind.i64 ((Int.tmod (IntKind.wrap IntKind.i64 ((((ByteArray.size (Prod.snd x)) : Nat) : Int) - (1 : Int))) (9 : Int)) + (1 : Int)))) ∧ ((IntKind.wrap IntKind.i64 ((Int.tmod (IntKind.wrap IntKind.i64 ((((ByteArray.size (Prod.snd x)) : Nat) : Int) - (1 : Int))) (9 : Int)) + (1 : Int))) ≤ (((ByteArray.size (Prod.snd x)) : Nat) : Int))) ∧ (True ∧ True)) ∧ (True ∧ (∃ (y : (Prod (List Nat) ByteArray)), (∃ (kp : (List (Option Nat))), (((ByteArray.size (Prod.snd y)) < (ByteArray.size (Prod.snd x))) ∧ ((((Dig (Prod.fst y)) ∧ (((List.length (Prod.fst y)) + (ByteArray.size (Prod.snd y))) ≤ (4000 : Nat))) ∧ (((allD (bys (Prod.snd y))) = Bool.true) ∧ ((dvlF (nv (Prod.fst y)) (bys (Prod.snd y))) = (Prod.fst p)))) ∧ (viewAll kp [(Prod.mk (2 : Nat) (D.ptr (0 : Nat) (0 : Nat))), (Prod.mk (4 : Nat) (D.v (Value.string (ByteArray.extract (Prod.snd x) (Int.toNat (IntKind.wrap IntKind.i64 ((Int.tmod (IntKind.wrap IntKind.i64 ((((ByteArray.size (Prod.snd x)) : Nat) : Int) - (1 : Int))) (9 : Int)) + (1 : Int)))) (ByteArray.size (Prod.snd x)))))), (Prod.mk (5 : Nat) (D.v (Value.bool (Prod.fst (Prod.snd p))))), (Prod.mk (6 : Nat) (D.sl (1 : Nat) (0 : Nat) (List.length (mgR (unu (u32s (Prod.fst x))) ((10 : Nat) ^ (ByteArray.size (ByteArray.extract (Prod.snd x) (0 : Nat) (Int.toNat (IntKind.wrap IntKind.i64 ((Int.tmod (IntKind.wrap IntKind.i64 ((((ByteArray.size (Prod.snd x)) : Nat) : Int) - (1 : Int))) (9 : Int)) + (1 : Int))))))) (dvl (bys (ByteArray.extract (Prod.snd x) (0 : Nat) (Int.toNat (IntKind.wrap IntKind.i64 ((Int.tmod (IntKind.wrap IntKind.i64 ((((ByteArray.size (Prod.snd x)) : Nat) : Int) - (1 : Int))) (9 : Int)) + (1 : Int))))))))) (Cap.toEnd (1 : Nat))))] [(Option.some (Blk.mk (24 : Nat) [(D.v (Value.bool Bool.false)), (D.v (Value.slice (Option.none) (0 : Nat) (0 : Nat)))] Bool.true)), (Option.some (Blk.mk (48 : Nat) (u32s (mgR (unu (u32s (Prod.fst x))) ((10 : Nat) ^ (ByteArray.size (ByteArray.extract (Prod.snd x) (0 : Nat) (Int.toNat (IntKind.wrap IntKind.i64 ((Int.tmod (IntKind.wrap IntKind.i64 ((((ByteArray.size (Prod.snd x)) : Nat) : Int) - (1 : Int))) (9 : Int)) + (1 : Int))))))) (dvl (bys (ByteArray.extract (Prod.snd x) (0 : Nat) (Int.toNat (IntKind.wrap IntKind.i64 ((Int.tmod (IntKind.wrap IntKind.i64 ((((ByteArray.size (Prod.snd x)) : Nat) : Int) - (1 : Int))) (9 : Int)) + (1 : Int))))))))) Bool.false))] [(Prod.mk (2 : Nat) (D.ptr (0 : Nat) (0 : Nat))), (Prod.mk (4 : Nat) (D.v (Value.string (Prod.snd y)))), (Prod.mk (5 : Nat) (D.v (Value.bool (Prod.fst (Prod.snd p))))), (Prod.mk (6 : Nat) (D.sl (1 : Nat) (0 : Nat) (List.length (Prod.fst y)) (Cap.toEnd (1 : Nat))))] [d_pb, (Option.some (Blk.mk (48 : TypeId) (u32s (Prod.fst y)) Bool.false))])))))))))))))))))))))) (∃ (r : (List Nat)), (∃ (kp : (List (Option Nat))), ((((Dig r) ∧ ((List.length r) ≤ (4000 : Nat))) ∧ ((nv r) = (Prod.fst p))) ∧ (((Exit.exit (0 : Nat)) = (Exit.exit (0 : Nat))) ∧ (viewAll kp [(Prod.mk (2 : Nat) (D.ptr (0 : Nat) (0 : Nat))), (Prod.mk (5 : Nat) (D.v (Value.bool (Prod.fst (Prod.snd p))))), (Prod.mk (6 : Nat) (D.sl (1 : Nat) (0 : Nat) (List.length (Prod.fst x)) (Cap.toEnd (1 : Nat))))] [(Option.some (Blk.mk (24 : Nat) [(D.v (Value.bool Bool.false)), (D.v (Value.slice (Option.none) (0 : Nat) (0 : Nat)))] Bool.true)), (Option.some (Blk.mk (48 : Nat) (u32s (Prod.fst x)) Bool.false))] (Prod.fst (Prod.snd ((fun (zs : (List Nat)) => (Prod.mk (Exit.exit (0 : Nat)) (Prod.mk [(Prod.mk (2 : Nat) (D.ptr (0 : Nat) (0 : Nat))), (Prod.mk (5 : Nat) (D.v (Value.bool (Prod.fst (Prod.snd p))))), (Prod.mk (6 : Nat) (D.sl (1 : Nat) (0 : Nat) (List.length zs) (Cap.toEnd (1 : Nat))))] [d_pb, (Option.some (Blk.mk (48 : TypeId) (u32s zs) Bool.false))]))) r))) (Prod.snd (Prod.snd ((fun (zs : (List Nat)) => (Prod.mk (Exit.exit (0 : Nat)) (Prod.mk [(Prod.mk (2 : Nat) (D.ptr (0 : Nat) (0 : Nat))), (Prod.mk (5 : Nat) (D.v (Value.bool (Prod.fst (Prod.snd p))))), (Prod.mk (6 : Nat) (D.sl (1 : Nat) (0 : Nat) (List.length zs) (Cap.toEnd (1 : Nat))))] [d_pb, (Option.some (Blk.mk (48 : TypeId) (u32s zs) Bool.false))]))) r))))))))))))) (by kernel_rfl) ?_
  obtain ⟨V, neg, d0⟩ := p
  obtain ⟨zs, d⟩ := x
  simp only [true_and, and_true, and_self, IsInt_lit, IsBool_lit, IsStr_lit, Bool.not_eq_true', Bool.not_eq_false', Bool.not_true, Bool.not_false, Int.reduceLE, Int.reduceLT, Int.reduceNeg, Nat.le_refl, Int.le_refl, Nat.reduceLT, Nat.reduceLeDiff, Nat.reduceEqDiff, D.v.injEq, D.tup.injEq, D.agg.injEq, D.ro.injEq, List.cons.injEq, Value.int.injEq, Value.bool.injEq, pcond_true, pcond_false, NamelessL, Nameless, Nat.reduceMul, Nat.reduceAdd, Nat.zero_add, Int.toNat_natCast, unu_u32s] at *
  obtain ⟨⟨hz, hl⟩, hd, hv⟩ := hJ
  have hsz := bys_length d
  refine pcond_intro (fun h => ?_) (fun h => ?_)
  · simp only [decide_eq_true_eq] at h
    have em : IntKind.i64.wrap ((IntKind.i64.wrap ((d.size : Int) - 1)).tmod 9 + 1) = (((d.size - 1) % 9 + 1 : Nat) : Int) := by
      rw [wrap_i64_of (n := (d.size : Int) - 1) (by omega) (by omega), Int.tmod_eq_emod_of_nonneg (by omega), wrap_i64_of (by omega) (by omega)]; omega
    have hm1 : (d.size - 1) % 9 + 1 ≤ 9 ∧ (d.size - 1) % 9 + 1 ≤ d.size ∧ 0 < (d.size - 1) % 9 + 1 := by omega
    simp only [em, Int.toNat_natCast]
    generalize (d.size - 1) % 9 + 1 = m at *
    have hG : bys (d.extract 0 m) = (bys d).take m := by rw [bys_extract]; simp
    have hGl : ((bys d).take m).length = m := by simp; omega
    have hGs : (d.extract 0 m).size = m := by rw [← bys_length, hG, hGl]
    have hR : bys (d.extract m d.size) = (bys d).drop m := by rw [bys_extract, List.take_of_length_le (by simp; omega)]
    have hRs : (d.extract m d.size).size = d.size - m := by rw [← bys_length, hR]; simp [hsz]
    have hGd : allD (bys (d.extract 0 m)) = true := by rw [hG]; exact allD_take hd m
    have hlt := dvl_lt hGd (bys (d.extract 0 m)).length (Nat.le_refl _)
    rw [List.take_length, bys_length] at hlt
    have hp : 10 ^ (d.extract 0 m).size ≤ 10 ^ 9 := Nat.pow_le_pow_right (by decide) (by omega)
    simp only [Nat.reducePow] at hp
    obtain ⟨r1, r2, r3⟩ := mgR_val hz hlt (by omega)
    have hval := (dvlF_eq ((bys d).take m) (nv zs)).symm
    rw [hGl] at hval
    refine ⟨by decide, ⟨by omega, by omega⟩, ⟨⟨hGd, by omega⟩, by omega, hz⟩, pcond_intro (fun h1 => ?_) (fun h1 => ?_)⟩
    · refine ⟨⟨by omega, by omega⟩, (mgR zs (10 ^ (d.extract 0 m).size) (dvl (bys (d.extract 0 m))), d.extract m d.size), [some 0, some 2], by simp only [hRs]; omega, ⟨⟨r2, by simp only [hRs]; omega⟩, by simp only [hR]; exact allD_drop hd m, ?_⟩, ?_⟩
      · simp only
        rw [r1, hR, hGs, hG, hval, ← dvlF_app, List.take_append_drop]; exact hv
      · refine of_eq (B := ((Bool.true = Bool.true) ∧ (((((Option.some (Blk.mk (24 : Nat) [(D.v (Value.bool Bool.false)), (D.v (Value.slice (Option.none) (0 : Nat) (0 : Nat)))] Bool.true)) = (Option.some (Blk.mk (24 : Nat) [(D.v (Value.bool Bool.false)), (D.v (Value.slice (Option.none) (0 : Nat) (0 : Nat)))] Bool.true))) ∧ (NamelessL [(D.v (Value.bool Bool.false)), (D.v (Value.slice (Option.none) (0 : Nat) (0 : Nat)))])) ∧ ((((Option.some (Blk.mk (48 : Nat) (u32s (mgR zs ((10 : Nat) ^ (ByteArray.size (ByteArray.extract d (0 : Nat) m))) (dvl (bys (ByteArray.extract d (0 : Nat) m))))) Bool.false)) = (Option.some (Blk.mk (48 : Nat) (u32s (mgR zs ((10 : Nat) ^ (ByteArray.size (ByteArray.extract d (0 : Nat) m))) (dvl (bys (ByteArray.extract d (0 : Nat) m))))) Bool.false))) ∧ (NamelessL (u32s (mgR zs ((10 : Nat) ^ (ByteArray.size (ByteArray.extract d (0 : Nat) m))) (dvl (bys (ByteArray.extract d (0 : Nat) m))))))) ∧ (([] : List (Option Blk)) = ([] : List (Option Blk))))) ∧ ((True ∧ ((D.ptr (0 : Nat) (0 : Nat)) = (D.ptr (0 : Nat) (0 : Nat)))) ∧ ((True ∧ ((D.v (Value.string (ByteArray.extract d m (ByteArray.size d)))) = (D.v (Value.string (ByteArray.extract d m (ByteArray.size d)))))) ∧ ((True ∧ ((D.v (Value.bool neg)) = (D.v (Value.bool neg)))) ∧ ((True ∧ ((D.sl (1 : Nat) (0 : Nat) (List.length (mgR zs ((10 : Nat) ^ (ByteArray.size (ByteArray.extract d (0 : Nat) m))) (dvl (bys (ByteArray.extract d (0 : Nat) m))))) (Cap.toEnd (1 : Nat))) = (D.sl (1 : Nat) (0 : Nat) (List.length (mgR zs ((10 : Nat) ^ (ByteArray.size (ByteArray.extract d (0 : Nat) m))) (dvl (bys (ByteArray.extract d (0 : Nat) m))))) (Cap.toEnd (1 : Nat))))) ∧ True))))))) (by kernel_rfl) ?_
        simp [u32s_nameless, NamelessL, Nameless]
    · refine ⟨⟨by omega, by omega⟩, (mgR zs (10 ^ (d.extract 0 m).size) (dvl (bys (d.extract 0 m))), d.extract m d.size), [some 0, some 1], by simp only [hRs]; omega, ⟨⟨r2, by simp only [hRs]; omega⟩, by simp only [hR]; exact allD_drop hd m, ?_⟩, ?_⟩
      · simp only
        rw [r1, hR, hGs, hG, hval, ← dvlF_app, List.take_append_drop]; exact hv
      · refine of_eq (B := ((Bool.true = Bool.true) ∧ (((((Option.some (Blk.mk (24 : Nat) [(D.v (Value.bool Bool.false)), (D.v (Value.slice (Option.none) (0 : Nat) (0 : Nat)))] Bool.true)) = (Option.some (Blk.mk (24 : Nat) [(D.v (Value.bool Bool.false)), (D.v (Value.slice (Option.none) (0 : Nat) (0 : Nat)))] Bool.true))) ∧ (NamelessL [(D.v (Value.bool Bool.false)), (D.v (Value.slice (Option.none) (0 : Nat) (0 : Nat)))])) ∧ ((((Option.some (Blk.mk (48 : Nat) (u32s (mgR zs ((10 : Nat) ^ (ByteArray.size (ByteArray.extract d (0 : Nat) m))) (dvl (bys (ByteArray.extract d (0 : Nat) m))))) Bool.false)) = (Option.some (Blk.mk (48 : Nat) (u32s (mgR zs ((10 : Nat) ^ (ByteArray.size (ByteArray.extract d (0 : Nat) m))) (dvl (bys (ByteArray.extract d (0 : Nat) m))))) Bool.false))) ∧ (NamelessL (u32s (mgR zs ((10 : Nat) ^ (ByteArray.size (ByteArray.extract d (0 : Nat) m))) (dvl (bys (ByteArray.extract d (0 : Nat) m))))))) ∧ (([] : List (Option Blk)) = ([] : List (Option Blk))))) ∧ ((True ∧ ((D.ptr (0 : Nat) (0 : Nat)) = (D.ptr (0 : Nat) (0 : Nat)))) ∧ ((True ∧ ((D.v (Value.string (ByteArray.extract d m (ByteArray.size d)))) = (D.v (Value.string (ByteArray.extract d m (ByteArray.size d)))))) ∧ ((True ∧ ((D.v (Value.bool neg)) = (D.v (Value.bool neg)))) ∧ ((True ∧ ((D.sl (1 : Nat) (0 : Nat) (List.length (mgR zs ((10 : Nat) ^ (ByteArray.size (ByteArray.extract d (0 : Nat) m))) (dvl (bys (ByteArray.extract d (0 : Nat) m))))) (Cap.toEnd (1 : Nat))) = (D.sl (1 : Nat) (0 : Nat) (List.length (mgR zs ((10 : Nat) ^ (ByteArray.size (ByteArray.extract d (0 : Nat) m))) (dvl (bys (ByteArray.extract d (0 : Nat) m))))) (Cap.toEnd (1 : Nat))))) ∧ True))))))) (by kernel_rfl) ?_
        simp [u32s_nameless, NamelessL, Nameless]
  · simp only [decide_eq_false_iff_not] at h
    have h0 : bys d = [] := List.eq_nil_of_length_eq_zero (by omega)
    rw [h0] at hv
    refine ⟨zs, [some 0, some 1], ⟨⟨hz, by omega⟩, hv⟩, ?_⟩
    refine of_eq (B := ((Bool.true = Bool.true) ∧ (((((Option.some (Blk.mk (24 : Nat) [(D.v (Value.bool Bool.false)), (D.v (Value.slice (Option.none) (0 : Nat) (0 : Nat)))] Bool.true)) = (Option.some (Blk.mk (24 : Nat) [(D.v (Value.bool Bool.false)), (D.v (Value.slice (Option.none) (0 : Nat) (0 : Nat)))] Bool.true))) ∧ (NamelessL [(D.v (Value.bool Bool.false)), (D.v (Value.slice (Option.none) (0 : Nat) (0 : Nat)))])) ∧ ((((Option.some (Blk.mk (48 : Nat) (u32s zs) Bool.false)) = (Option.some (Blk.mk (48 : Nat) (u32s zs) Bool.false))) ∧ (NamelessL (u32s zs))) ∧ (([] : List (Option Blk)) = ([] : List (Option Blk))))) ∧ ((True ∧ ((D.ptr (0 : Nat) (0 : Nat)) = (D.ptr (0 : Nat) (0 : Nat)))) ∧ ((True ∧ ((D.v (Value.bool neg)) = (D.v (Value.bool neg)))) ∧ ((True ∧ ((D.sl (1 : Nat) (0 : Nat) (List.length zs) (Cap.toEnd (1 : Nat))) = (D.sl (1 : Nat) (0 : Nat) (List.length zs) (Cap.toEnd (1 : Nat))))) ∧ True)))))) (by kernel_rfl) ?_
    simp [u32s_nameless, NamelessL, Nameless]
theorem decT_dec {L : List Nat} (h : decOk L = true) : decT L L.length = decD L := by
  have ha : allD (decD L) = true := by
    unfold decOk at h
    simp only [Bool.and_eq_true] at h
    exact h.2
  have hf : (decD L).filter (fun c => !(c == 45)) = decD L := List.filter_eq_self.2 fun c hc => by
    have := List.all_eq_true.1 ha c hc
    simp [dig1] at this
    simp; omega
  unfold decT
  rw [List.take_length]
  by_cases h0 : L.getD 0 0 = 45
  · have hd : decD L = L.drop 1 := by unfold decD; rw [if_pos h0]
    rw [hd] at hf ⊢
    match L, h0 with
    | c :: M, h0 =>
      simp only [List.getD_cons_zero] at h0
      subst h0
      simpa using hf
  · have hd : decD L = L := by unfold decD; rw [if_neg h0]
    rwa [hd] at hf ⊢
theorem par_made {L r : List Nat} (hr : Dig r) (hv : nv r = dvl (decT L L.length)) : madeN (decide (L.getD 0 0 = 45)) r = decide (parV L < 0) ∧ trimL r = ofL (parV L) := by
  have ht : trimL r = dg (dvl (decT L L.length)) := by rw [trimL_dig hr, hv]
  have hm2 : ∀ neg, madeN neg r = (neg && decide (dvl (decT L L.length) ≠ 0)) := fun neg => by
    have := (madeN_dg neg (dvl (decT L L.length))).1
    unfold madeN at this ⊢
    rw [ht]
    rwa [(madeN_dg neg _).2] at this
  unfold parV
  rw [hm2, ht]
  generalize dvl (decT L L.length) = V
  by_cases hc : L.getD 0 0 = 45
  · rw [if_pos hc, decide_eq_true hc]
    exact ⟨by rw [Bool.true_and]; exact decide_eq_decide.2 (by omega), by simp [ofL]⟩
  · rw [if_neg hc, decide_eq_false hc]
    exact ⟨by rw [Bool.false_and]; exact (decide_eq_false (by omega)).symm, by simp [ofL]⟩
theorem hParse_pure (s : ByteArray) (hpre : s.size ≤ 100000) : PureJ Try.prog 45 [.v (.string s)] (d_ar (parS (bys s))) := by
  refine pureJ_of_vcpN (call := (addPure 74 ent_cutPrefix (addPure 75 ent_canonical (addPure 58 ent_isigned noCalls)))) (lp := fun k => bif Nat.beq k 7 then some (exLoop (fun p : PP => lp_iparLoop  p)) else none) (N := 10) T_ok mixed (addPure_ok ent_cutPrefix_ok (addPure_ok ent_canonical_ok (addPure_ok ent_isigned_ok noCalls_ok))) Try.func45 rfl (by decide) (by kernel_rfl) (by kernel_rfl) (of_eq (B := LRuleP Try.prog Try.f45.ntmps (loopAt ((Try.f45.body).getD .skip) 7) (exLoop (fun p : PP => lp_iparLoop  p)) ∧ True) (by kernel_rfl) ⟨exLoop_rule (fun p : PP => iparLoop_rule  p), trivial⟩) (by (simp [NamelessL, Nameless, d_ar, d_int, u32s_nameless]; done)) (by (simp [NamelessL, Nameless, d_ar, d_int, u32s_nameless]; done)) ?_
  refine of_eq (B := (True ∧ (True ∧ (True ∧ (True ∧ (True ∧ (pcond (Decidable.decide ((4000 : Int) < (((ByteArray.size s) : Nat) : Int))) (True ∧ ((((2 : Nat) = (2 : Nat)) ∧ ((2 : Nat) ≤ (2 : Nat))) ∧ (True ∧ ((((2 : Nat) ≤ (2 : Nat)) ∧ True) ∧ (((True ∧ (True ∧ True)) ∧ (True ∧ True)) ∧ ((D.tup [(D.agg [(D.v (Value.bool Bool.false)), (D.ro (0 : Nat) ([] : List D))]), (D.v (Value.int IntKind.i64 (4 : Int)))]) = (D.tup [(D.agg [(D.v (Value.bool (Prod.fst (parS (bys s))))), (D.ro (List.length (Prod.fst (Prod.snd (parS (bys s))))) (u32s (Prod.fst (Prod.snd (parS (bys s))))))]), (D.v (Value.int IntKind.i64 (Prod.snd (Prod.snd (parS (bys s))))))]))))))) (True ∧ (True ∧ (True ∧ (True ∧ (True ∧ (True ∧ (True ∧ (True ∧ (((ByteArray.size (cond (hasP s (ByteArray.mk (Array.mk [(45 : UInt8)]))) (ByteArray.extract s (1 : Nat) (ByteArray.size s)) s)) ≤ (100000 : Nat)) ∧ (True ∧ (True ∧ (pcond (!(canOk (bys (cond (hasP s (ByteArray.mk (Array.mk [(45 : UInt8)]))) (ByteArray.extract s (1 : Nat) (ByteArray.size s)) s)))) ((([] : List Value) = ([] : List Value)) ∧ ((([] : List Value) = ([] : List Value)) ∧ (True ∧ (True ∧ ((((2 : Nat) = (2 : Nat)) ∧ ((2 : Nat) ≤ (2 : Nat))) ∧ (True ∧ ((((2 : Nat) ≤ (2 : Nat)) ∧ True) ∧ (((True ∧ (True ∧ True)) ∧ (True ∧ True)) ∧ ((D.tup [(D.agg [(D.v (Value.bool Bool.false)), (D.ro (0 : Nat) ([] : List D))]), (D.v (Value.int IntKind.i64 (6 : Int)))]) = (D.tup [(D.agg [(D.v (Value.bool (Prod.fst (parS (bys s))))), (D.ro (List.length (Prod.fst (Prod.snd (parS (bys s))))) (u32s (Prod.fst (Prod.snd (parS (bys s))))))]), (D.v (Value.int IntKind.i64 (Prod.snd (Prod.snd (parS (bys s))))))])))))))))) (True ∧ (True ∧ (pcond (hasP s (ByteArray.mk (Array.mk [(45 : UInt8)]))) (True ∧ (True ∧ (True ∧ (True ∧ (pcond ((ByteArray.toList (cond (hasP s (ByteArray.mk (Array.mk [(45 : UInt8)]))) (ByteArray.extract s (1 : Nat) (ByteArray.size s)) s)) == [(UInt8.ofBitVec (BitVec.ofFin (Fin.mk (48 : Nat) (Nat.mod_lt 48 (BitVec.ofNat._proof_1 (8 : Nat))))))]) (True ∧ ((((2 : Nat) = (2 : Nat)) ∧ ((2 : Nat) ≤ (2 : Nat))) ∧ (True ∧ ((((2 : Nat) ≤ (2 : Nat)) ∧ True) ∧ (((True ∧ (True ∧ True)) ∧ (True ∧ True)) ∧ ((D.tup [(D.agg [(D.v (Value.bool Bool.false)), (D.ro (0 : Nat) ([] : List D))]), (D.v (Value.int IntKind.i64 (6 : Int)))]) = (D.tup [(D.agg [(D.v (Value.bool (Prod.fst (parS (bys s))))), (D.ro (List.length (Prod.fst (Prod.snd (parS (bys s))))) (u32s (Prod.fst (Prod.snd (parS (bys s))))))]), (D.v (Value.int IntKind.i64 (Prod.snd (Prod.snd (parS (bys s))))))]))))))) (True ∧ (∃ (a : PP), ((((Dig ([] : List Nat)) ∧ (((0 : Nat) + (ByteArray.size (Prod.snd (Prod.snd a)))) ≤ (4000 : Nat))) ∧ (((allD (bys (Prod.snd (Prod.snd a)))) = Bool.true) ∧ ((dvlF (nv ([] : List Nat)) (bys (Prod.snd (Prod.snd a)))) = (Prod.fst a)))) ∧ (((Bool.true = Bool.true) ∧ (((((Option.some (Blk.mk (24 : Nat) [(D.v (Value.bool Bool.false)), (D.v (Value.slice (Option.none) (0 : Nat) (0 : Nat)))] Bool.true)) = (Option.some (Blk.mk (24 : Nat) [(D.v (Value.bool Bool.false)), (D.v (Value.slice (Option.none) (0 : Nat) (0 : Nat)))] Bool.true))) ∧ (NamelessL [(D.v (Value.bool Bool.false)), (D.v (Value.slice (Option.none) (0 : Nat) (0 : Nat)))])) ∧ (((u32s ([] : List Nat)) = ([] : List D)) ∧ (([] : List (Option Blk)) = ([] : List (Option Blk))))) ∧ ((True ∧ ((D.ptr (0 : Nat) (0 : Nat)) = (D.ptr (0 : Nat) (0 : Nat)))) ∧ ((True ∧ ((D.v (Value.string (cond (hasP s (ByteArray.mk (Array.mk [(45 : UInt8)]))) (ByteArray.extract s (1 : Nat) (ByteArray.size s)) s))) = (D.v (Value.string (Prod.snd (Prod.snd a)))))) ∧ ((True ∧ ((D.v (Value.bool (hasP s (ByteArray.mk (Array.mk [(45 : UInt8)]))))) = (D.v (Value.bool (Prod.fst (Prod.snd a)))))) ∧ (True ∧ True)))))) ∧ (∀ (r : (List Nat)), ((((Dig r) ∧ ((List.length r) ≤ (4000 : Nat))) ∧ ((nv r) = (Prod.fst a))) → (True ∧ (True ∧ (((True ∧ (((NamelessL (u32s r)) ∧ (((0 : Nat) < (1 : Nat)) ∧ (((0 : Nat) + ((List.length r) * (1 : Nat))) ≤ (List.length (u32s r))))) ∧ True)) ∧ ((((List.take ((List.length r) * (1 : Nat)) (List.drop (0 : Nat) (u32s r))) = (u32s (unu (List.take ((List.length r) * (1 : Nat)) (List.drop (0 : Nat) (u32s r)))))) ∧ ((List.length r) = (List.length (unu (List.take ((List.length r) * (1 : Nat)) (List.drop (0 : Nat) (u32s r))))))) ∧ ((List.length (unu (List.take ((List.length r) * (1 : Nat)) (List.drop (0 : Nat) (u32s r))))) ≤ (1000000 : Nat)))) ∧ (True ∧ (True ∧ ((((2 : Nat) = (2 : Nat)) ∧ ((2 : Nat) ≤ (2 : Nat))) ∧ (True ∧ ((((2 : Nat) ≤ (2 : Nat)) ∧ True) ∧ (((True ∧ (True ∧ True)) ∧ (True ∧ True)) ∧ ((D.tup [(D.agg [(D.v (Value.bool (sigN (Prod.fst (Prod.snd a)) (unu (List.take ((List.length r) * (1 : Nat)) (List.drop (0 : Nat) (u32s r))))))), (D.ro (List.length (sigL (unu (List.take ((List.length r) * (1 : Nat)) (List.drop (0 : Nat) (u32s r)))))) (u32s (sigL (unu (List.take ((List.length r) * (1 : Nat)) (List.drop (0 : Nat) (u32s r)))))))]), (D.v (Value.int IntKind.i64 (sigE (unu (List.take ((List.length r) * (1 : Nat)) (List.drop (0 : Nat) (u32s r)))))))]) = (D.tup [(D.agg [(D.v (Value.bool (Prod.fst (parS (bys s))))), (D.ro (List.length (Prod.fst (Prod.snd (parS (bys s))))) (u32s (Prod.fst (Prod.snd (parS (bys s))))))]), (D.v (Value.int IntKind.i64 (Prod.snd (Prod.snd (parS (bys s))))))])))))))))))))))))))))) (True ∧ (True ∧ (True ∧ (∃ (a : PP), ((((Dig ([] : List Nat)) ∧ (((0 : Nat) + (ByteArray.size (Prod.snd (Prod.snd a)))) ≤ (4000 : Nat))) ∧ (((allD (bys (Prod.snd (Prod.snd a)))) = Bool.true) ∧ ((dvlF (nv ([] : List Nat)) (bys (Prod.snd (Prod.snd a)))) = (Prod.fst a)))) ∧ (((Bool.true = Bool.true) ∧ (((((Option.some (Blk.mk (24 : Nat) [(D.v (Value.bool Bool.false)), (D.v (Value.slice (Option.none) (0 : Nat) (0 : Nat)))] Bool.true)) = (Option.some (Blk.mk (24 : Nat) [(D.v (Value.bool Bool.false)), (D.v (Value.slice (Option.none) (0 : Nat) (0 : Nat)))] Bool.true))) ∧ (NamelessL [(D.v (Value.bool Bool.false)), (D.v (Value.slice (Option.none) (0 : Nat) (0 : Nat)))])) ∧ (((u32s ([] : List Nat)) = ([] : List D)) ∧ (([] : List (Option Blk)) = ([] : List (Option Blk))))) ∧ ((True ∧ ((D.ptr (0 : Nat) (0 : Nat)) = (D.ptr (0 : Nat) (0 : Nat)))) ∧ ((True ∧ ((D.v (Value.string (cond (hasP s (ByteArray.mk (Array.mk [(45 : UInt8)]))) (ByteArray.extract s (1 : Nat) (ByteArray.size s)) s))) = (D.v (Value.string (Prod.snd (Prod.snd a)))))) ∧ ((True ∧ ((D.v (Value.bool (hasP s (ByteArray.mk (Array.mk [(45 : UInt8)]))))) = (D.v (Value.bool (Prod.fst (Prod.snd a)))))) ∧ (True ∧ True)))))) ∧ (∀ (r : (List Nat)), ((((Dig r) ∧ ((List.length r) ≤ (4000 : Nat))) ∧ ((nv r) = (Prod.fst a))) → (True ∧ (True ∧ (((True ∧ (((NamelessL (u32s r)) ∧ (((0 : Nat) < (1 : Nat)) ∧ (((0 : Nat) + ((List.length r) * (1 : Nat))) ≤ (List.length (u32s r))))) ∧ True)) ∧ ((((List.take ((List.length r) * (1 : Nat)) (List.drop (0 : Nat) (u32s r))) = (u32s (unu (List.take ((List.length r) * (1 : Nat)) (List.drop (0 : Nat) (u32s r)))))) ∧ ((List.length r) = (List.length (unu (List.take ((List.length r) * (1 : Nat)) (List.drop (0 : Nat) (u32s r))))))) ∧ ((List.length (unu (List.take ((List.length r) * (1 : Nat)) (List.drop (0 : Nat) (u32s r))))) ≤ (1000000 : Nat)))) ∧ (True ∧ (True ∧ ((((2 : Nat) = (2 : Nat)) ∧ ((2 : Nat) ≤ (2 : Nat))) ∧ (True ∧ ((((2 : Nat) ≤ (2 : Nat)) ∧ True) ∧ (((True ∧ (True ∧ True)) ∧ (True ∧ True)) ∧ ((D.tup [(D.agg [(D.v (Value.bool (sigN (Prod.fst (Prod.snd a)) (unu (List.take ((List.length r) * (1 : Nat)) (List.drop (0 : Nat) (u32s r))))))), (D.ro (List.length (sigL (unu (List.take ((List.length r) * (1 : Nat)) (List.drop (0 : Nat) (u32s r)))))) (u32s (sigL (unu (List.take ((List.length r) * (1 : Nat)) (List.drop (0 : Nat) (u32s r)))))))]), (D.v (Value.int IntKind.i64 (sigE (unu (List.take ((List.length r) * (1 : Nat)) (List.drop (0 : Nat) (u32s r)))))))]) = (D.tup [(D.agg [(D.v (Value.bool (Prod.fst (parS (bys s))))), (D.ro (List.length (Prod.fst (Prod.snd (parS (bys s))))) (u32s (Prod.fst (Prod.snd (parS (bys s))))))]), (D.v (Value.int IntKind.i64 (Prod.snd (Prod.snd (parS (bys s))))))]))))))))))))))))))))))))))))))))))))))))) (by kernel_rfl) ?_
  simp only [true_and, and_true, and_self, IsInt_lit, IsBool_lit, IsStr_lit, Bool.not_eq_true', Bool.not_eq_false', Bool.not_true, Bool.not_false, Int.reduceLE, Int.reduceLT, Int.reduceNeg, Nat.le_refl, Int.le_refl, Nat.reduceLT, Nat.reduceLeDiff, Nat.reduceEqDiff, D.v.injEq, D.tup.injEq, D.agg.injEq, D.ro.injEq, List.cons.injEq, Value.int.injEq, Value.bool.injEq, pcond_true, pcond_false, NamelessL, Nameless, Nat.reduceMul, Nat.reduceAdd, Nat.zero_add, Int.toNat_natCast, bys_get, unu_u32s, ByteArray.toList_eq, beq_list, bys_def]
  have hsz := bys_length s
  have hP : hasP s ⟨#[45]⟩ = decide ((bys s).getD 0 0 = 45) := by
    unfold hasP
    rw [show bys ⟨#[45]⟩ = [45] from rfl, show (⟨#[45]⟩ : ByteArray).size = 1 from rfl, ← hsz]
    clear hsz
    generalize bys s = L
    match L with
    | [] => rfl
    | c :: M => simp
  have hD : bys (bif hasP s ⟨#[45]⟩ then s.extract 1 s.size else s) = decD (bys s) := by
    rw [hP]
    unfold decD
    by_cases h : (bys s).getD 0 0 = 45
    · rw [decide_eq_true h, cond_true, if_pos h, bys_extract, List.take_of_length_le (by simp; omega)]
    · rw [decide_eq_false h, cond_false, if_neg h]
  have hDs : (bif hasP s ⟨#[45]⟩ then s.extract 1 s.size else s).size ≤ s.size := by
    rw [← bys_length, hD, ← hsz]; unfold decD; split <;> simp
  have hdc := dec_can (bys s)
  generalize (bif hasP s ⟨#[45]⟩ then s.extract 1 s.size else s) = D at *
  rw [hP]
  refine pcond_intro (fun h => ?_) (fun h => ⟨by omega, pcond_intro (fun h1 => ?_) (fun h1 => ?_)⟩)
  · have : decide (4000 < (bys s).length) = true := by simp only [decide_eq_true_eq] at h ⊢; omega
    simp [parS, this, u32s]
  · have : decide (4000 < (bys s).length) = false := by simp only [decide_eq_false_iff_not] at h ⊢; omega
    simp only [Bool.not_eq_true', hD] at h1
    rw [h1, Bool.false_and] at hdc
    simp [parS, this, ← hdc, u32s]
  · have h2 : decide (4000 < (bys s).length) = false := by simp only [decide_eq_false_iff_not] at h ⊢; omega
    simp only [Bool.not_eq_false', hD] at h1
    simp only [decide_eq_false_iff_not] at h
    have e48 : List.map (fun x : UInt8 => x.toNat) [48] = [48] := rfl
    refine pcond_intro (fun hn => pcond_intro (fun h3 => ?_) (fun h3 => ?_)) (fun hn => ?_)
    · have h4 : decide (decD (bys s) = [48]) = true := by rw [← hD]; exact h3
      rw [h1, hn, h4] at hdc
      have hdc : decOk (bys s) = false := hdc.symm
      simp [parS, h2, hdc, u32s]
    · have h4 : decide (decD (bys s) = [48]) = false := by rw [← hD]; exact h3
      have hok : decOk (bys s) = true := by rw [← hdc, h1, h4, Bool.and_false]; rfl
      have hJ := decT_dec hok
      have ha : allD (bys D) = true := by
        rw [hD]
        unfold canOk at h1
        simp only [Bool.and_eq_true] at h1
        exact h1.1
      refine ⟨(dvl (decD (bys s)), true, D), ⟨⟨Dig.nil, by simp only; omega⟩, ha, by simp only [hD]; rfl⟩, ⟨rfl, rfl, hn⟩, ?_⟩
      rintro r ⟨⟨hr, hrl⟩, hv⟩
      simp only at hv
      rw [← hJ] at hv
      obtain ⟨p1, p2⟩ := par_made hr hv
      rw [hn] at p1
      obtain ⟨s1, s2, s3⟩ := sig_ok p1 p2
      have e : List.take (r.length * 1) (List.drop 0 (u32s r)) = u32s r := by rw [List.drop_zero, Nat.mul_one, ← u32s_length r, List.take_length]
      have hS : parS (bys s) = okS (parV (bys s)) := by simp only [parS, h2, hok, cond_true, cond_false]
      simp only [e, unu_u32s, u32s_length, s1, s2, s3, hS]
      exact ⟨⟨⟨u32s_nameless _, by omega⟩, ⟨trivial, trivial⟩, by omega⟩, ⟨trivial, trivial, trivial⟩, trivial⟩
    · have hok : decOk (bys s) = true := by rw [← hdc, h1, hn, Bool.false_and]; rfl
      have hJ := decT_dec hok
      have ha : allD (bys D) = true := by
        rw [hD]
        unfold canOk at h1
        simp only [Bool.and_eq_true] at h1
        exact h1.1
      refine ⟨(dvl (decD (bys s)), false, D), ⟨⟨Dig.nil, by simp only; omega⟩, ha, by simp only [hD]; rfl⟩, ⟨rfl, rfl, hn⟩, ?_⟩
      rintro r ⟨⟨hr, hrl⟩, hv⟩
      simp only at hv
      rw [← hJ] at hv
      obtain ⟨p1, p2⟩ := par_made hr hv
      rw [hn] at p1
      obtain ⟨s1, s2, s3⟩ := sig_ok p1 p2
      have e : List.take (r.length * 1) (List.drop 0 (u32s r)) = u32s r := by rw [List.drop_zero, Nat.mul_one, ← u32s_length r, List.take_length]
      have hS : parS (bys s) = okS (parV (bys s)) := by simp only [parS, h2, hok, cond_true, cond_false]
      simp only [e, unu_u32s, u32s_length, s1, s2, s3, hS]
      exact ⟨⟨⟨u32s_nameless _, by omega⟩, ⟨trivial, trivial⟩, by omega⟩, ⟨trivial, trivial, trivial⟩, trivial⟩
def ent_hParse : Ent := fun ds => match ds with
  | [.v (.string s)] => some (d_ar (parS (bys s)), s.size ≤ 100000)
  | _ => none
theorem ent_hParse_ok : EntOk Try.prog 45 ent_hParse := by
  intro ds d c h hc; unfold ent_hParse at h; split at h
  · obtain ⟨rfl, rfl⟩ := pair_inj h; exact hParse_pure _ hc
  · cases h
/-! ## Layer 1: the law on texts. -/
theorem nd_spec : ∀ n v : Nat, v ≤ n → 0 < v → 0 < nd v ∧ 10 ^ (nd v - 1) ≤ v ∧ v < 10 ^ nd v
  | 0, v, h, h0 => by omega
  | n + 1, v, h, h0 => by
    have e : nd v = nd (v / 10) + 1 := by rw [nd, dif_neg (by omega)]
    rcases Nat.eq_zero_or_pos (v / 10) with h1 | h1
    · have e1 : nd (v / 10) = 0 := by rw [h1, nd]; simp
      rw [e, e1]; simp; omega
    · obtain ⟨a, b, c⟩ := nd_spec n (v / 10) (by omega) h1
      obtain ⟨k, hk⟩ : ∃ k, nd (v / 10) = k + 1 := ⟨nd (v / 10) - 1, by omega⟩
      rw [hk] at b c
      simp only [Nat.add_sub_cancel] at b
      rw [e, hk]
      simp only [Nat.add_sub_cancel]
      rw [Nat.pow_succ 10 (k + 1), Nat.pow_succ 10 k] at *
      omega
theorem dvl_rev : ∀ k v, dvl (dd k v).reverse = v % 10 ^ k
  | 0, v => by simp [dd, dvl, Nat.mod_one]
  | k + 1, v => by
    rw [dd, List.reverse_cons, dvl_app, dvl_rev k, Nat.pow_succ, Nat.mul_comm (10 ^ k) 10, Nat.mod_mul]
    omega
theorem bys_str {L : List Nat} (h : ∀ c ∈ L, c < 256) : bys (strOf (u8s L)) = L := by
  unfold bys strOf u8s
  simp only [List.map_map]
  conv => rhs; rw [← List.map_id L]
  refine List.map_congr_left fun c hc => ?_
  have := h c hc
  simp [cellInt]
  omega
theorem dd_char : ∀ k v c, c ∈ dd k v → 48 ≤ c ∧ c ≤ 57
  | 0, v, c, h => by simp [dd] at h
  | k + 1, v, c, h => by
    rw [dd, List.mem_cons] at h
    rcases h with h | h
    · omega
    · exact dd_char k _ c h
theorem decL_neg (v : Nat) : decL true v = 45 :: (dd (nd v) v).reverse := by simp [decL]
theorem decL_pos (v : Nat) : decL false v = (dd (nd v) v).reverse := by simp [decL]
theorem dd_last {v : Nat} (h : 0 < v) : ((dd (nd v) v).reverse).getD 0 0 ≠ 48 ∧ ((dd (nd v) v).reverse).getD 0 0 ≠ 45 := by
  obtain ⟨a, b, c⟩ := nd_spec v v (Nat.le_refl _) h
  obtain ⟨k, hk⟩ : ∃ k, nd v = k + 1 := ⟨nd v - 1, by omega⟩
  rw [hk] at b c ⊢
  simp only [Nat.add_sub_cancel] at b
  rw [dd_succ, List.reverse_append]
  have hp : 0 < 10 ^ k := Nat.pow_pos (by decide)
  have h1 : v / 10 ^ k < 10 := by rw [Nat.div_lt_iff_lt_mul hp, Nat.mul_comm, ← Nat.pow_succ]; exact c
  have h2 := Nat.div_pos b hp
  simp only [List.reverse_cons, List.reverse_nil, List.nil_append, List.cons_append, List.getD_cons_zero]
  clear c b
  generalize v / 10 ^ k = q at *
  omega
theorem dec_round {v : Nat} (neg : Bool) (h : 0 < v) : decOk (decL neg v) = true ∧ decD (decL neg v) = (dd (nd v) v).reverse ∧ decide ((decL neg v).getD 0 0 = 45) = neg := by
  obtain ⟨a, _, _⟩ := nd_spec v v (Nat.le_refl _) h
  obtain ⟨l1, l2⟩ := dd_last h
  have hl : (dd (nd v) v).reverse.length = nd v := by rw [List.length_reverse, dd_length]
  have hall : allD (dd (nd v) v).reverse = true := List.all_eq_true.2 fun c hc => by
    have := dd_char _ _ c (List.mem_reverse.1 hc)
    simp [dig1]; omega
  cases neg with
  | true =>
    have hD : decD (decL true v) = (dd (nd v) v).reverse := by rw [decL_neg]; unfold decD; rw [List.getD_cons_zero, if_pos rfl]; rfl
    refine ⟨?_, hD, by rw [decL_neg]; rfl⟩
    unfold decOk
    rw [hD, hl, decide_eq_false (by omega), decide_eq_false l1, hall]; rfl
  | false =>
    have hD : decD (decL false v) = (dd (nd v) v).reverse := by rw [decL_pos]; unfold decD; rw [if_neg l2]
    refine ⟨?_, hD, by rw [decL_pos]; exact decide_eq_false l2⟩
    unfold decOk
    rw [hD, hl, decide_eq_false (by omega), decide_eq_false l1, hall]; rfl
/-- Parse undoes Text -/
theorem par_round {xn : Bool} {xs : List Nat} (hg : Good xn xs) (hv : validL xn xs = true) (hl : xs.length ≤ 40) : parS (bys (txtB xn xs)) = (xn, xs, 0) := by
  obtain ⟨e1, e2⟩ := good_eq hg
  unfold txtB
  rw [hv, cond_true]
  by_cases h0 : xs.length = 0
  · have : xs = [] := List.eq_nil_of_length_eq_zero h0
    subst this
    have hn : xn = false := by unfold validL at hv; simpa using hv
    subst hn
    rw [decide_eq_true h0, cond_true]
    simp [parS, parV, decOk, decD, okS, ofL, allD, dig1, decT, dvl, bys, dg_zero]
  · rw [decide_eq_false h0, cond_false]
    have hpos : 0 < nv xs := by
      rcases Nat.eq_zero_or_pos (nv xs) with h3 | h3
      · have := hg.1; rw [h3, dg_zero] at this; rw [this] at h0; simp at h0
      · exact h3
    have hb : nv xs < 4294967296 ^ xs.length := nv_lt (good_dig hg)
    obtain ⟨a, b, c⟩ := nd_spec (nv xs) (nv xs) (Nat.le_refl _) hpos
    obtain ⟨o1, o2, o3⟩ := dec_round xn hpos
    have hnd := digits_le (V := nv xs) (j := nd (nv xs) - 1) (Nat.div_pos b (Nat.pow_pos (by decide))) hb
    have hlen : (decL xn (nv xs)).length ≤ nd (nv xs) + 1 := by unfold decL; rw [List.length_reverse, List.length_append, dd_length]; cases xn <;> simp
    rw [bys_str (fun c hc => by
      unfold decL at hc
      rw [List.mem_reverse, List.mem_append] at hc
      rcases hc with hc | hc
      · have := dd_char _ _ c hc; omega
      · cases xn <;> simp at hc; omega)]
    have hV : parV (decL xn (nv xs)) = iv xn xs := by
      unfold parV
      rw [decT_dec o1, o2, dvl_rev, Nat.mod_eq_of_lt c]
      unfold iv
      cases xn with
      | true => rw [if_pos (of_decide_eq_true o3), if_pos rfl]
      | false => rw [if_neg (of_decide_eq_false o3), if_neg (by simp)]
    have hok : decide (4000 < (decL xn (nv xs)).length) = false := decide_eq_false (by omega)
    simp only [parS, hok, o1, cond_true, cond_false, hV]
    unfold okS
    rw [← e1, ← e2, decide_eq_true (by omega), cond_true]
theorem gLarge1_pure (xn : Bool) (xs : List Nat) : PureJ Try.prog 14 [.ro 1 [.v (.bool xn), .ro xs.length (u32s xs)]] (.v (.bool (decide (40 < xs.length)))) := by
  refine pureJ_of_vcx (call := noCalls) (lp := fun _ => none) (N := 3) T_ok mixed noCalls_ok Try.func14 rfl (by decide) (by kernel_rfl) (by kernel_rfl) (LpAll.none _) (by first | trivial | (simp only [NamelessL, Nameless, and_self, and_true, true_and]; done) | (simp [NamelessL, Nameless, u32s_nameless, namelessL_ints]; done)) (by first | trivial | (simp only [NamelessL, Nameless, and_self, and_true, true_and]; done) | (simp [NamelessL, Nameless, u32s_nameless, namelessL_ints]; done)) ?_
  refine of_eq (B := (True ∧ (True ∧ (True ∧ (True ∧ (True ∧ (True ∧ (True ∧ (True ∧ ((((0 : Int) ≤ (0 : Int)) ∧ ((0 : Int) < (1 : Int))) ∧ (True ∧ (((1 : Nat) < (2 : Nat)) ∧ (True ∧ (True ∧ (pcond (Decidable.decide ((40 : Int) < (((List.length xs) : Nat) : Int))) (True ∧ (True ∧ (True ∧ ((D.v (Value.bool Bool.true)) = (D.v (Value.bool (Decidable.decide ((40 : Nat) < (List.length xs))))))))) (True ∧ (True ∧ (True ∧ (True ∧ (True ∧ (True ∧ (True ∧ (True ∧ (True ∧ (True ∧ ((D.v (Value.bool Bool.false)) = (D.v (Value.bool (Decidable.decide ((40 : Nat) < (List.length xs))))))))))))))))))))))))))))))) (by kernel_rfl) ?_
  simp only [true_and, and_true, and_self, IsInt_lit, IsBool_lit, IsStr_lit, Bool.not_eq_true', Bool.not_eq_false', Bool.not_true, Bool.not_false, Int.reduceLE, Int.reduceLT, Int.reduceNeg, Nat.le_refl, Int.le_refl, Nat.reduceLT, Nat.reduceLeDiff, Nat.reduceEqDiff, D.v.injEq, D.tup.injEq, D.agg.injEq, D.ro.injEq, List.cons.injEq, Value.int.injEq, Value.bool.injEq, pcond_true, pcond_false, NamelessL, Nameless, Nat.reduceMul, Nat.reduceAdd, Nat.zero_add, Int.toNat_natCast, unu_u32s]
  have e : ∀ n : Nat, decide ((40 : Int) < (n : Int)) = decide (40 < n) := fun n => by rw [decide_eq_decide]; omega
  rw [e]
  refine pcond_intro (fun h => ?_) (fun h => ?_) <;> simp [*]
def ent_gLarge1 : Ent := fun ds => match ds with
  | [.ro 1 [.v (.bool xn), .ro n_xs ys_xs]] => some (.v (.bool (decide (40 < (unu ys_xs).length))), (ys_xs = u32s (unu ys_xs) ∧ n_xs = (unu ys_xs).length) ∧ True)
  | _ => none
theorem ent_gLarge1_ok : EntOk Try.prog 14 ent_gLarge1 := by
  intro ds d c h hc; unfold ent_gLarge1 at h; split at h
  · rename_i xn n_xs ys_xs; obtain ⟨rfl, rfl⟩ := pair_inj h
    obtain ⟨⟨h1, h2⟩, hc⟩ := hc; subst h2; generalize (unu ys_xs) = xs at *; subst h1
    exact gLarge1_pure _ xs
  · cases h
theorem parS_len (L : List Nat) : (parS L).2.1.length ≤ 400 := by
  unfold parS
  cases decide (4000 < L.length) with
  | true => simp
  | false =>
    cases decOk L with
    | true => exact okS_len _
    | false => simp
theorem lawTexts_pure (xn : Bool) (xs : List Nat) (s : ByteArray) (hpre : Dig xs) : PureJ Try.prog 9 [.agg [.v (.bool xn), .ro xs.length (u32s xs)], .v (.string s)] (.v (.bool true)) := by
  refine pureJ_of_vcx (call := (addPure 13 ent_known (addPure 14 ent_gLarge1 (addPure 45 ent_hParse (addPure 46 ent_gParse (addPure 27 ent_lsame (addPure 18 ent_Valid (addPure 23 ent_iText (addPure 36 ent_gSame noCalls))))))))) (lp := fun _ => none) (N := 10) T_ok mixed (addPure_ok ent_known_ok (addPure_ok ent_gLarge1_ok (addPure_ok ent_hParse_ok (addPure_ok ent_gParse_ok (addPure_ok ent_lsame_ok (addPure_ok ent_Valid_ok (addPure_ok ent_iText_ok (addPure_ok ent_gSame_ok noCalls_ok)))))))) Try.func9 rfl (by decide) (by kernel_rfl) (by kernel_rfl) (LpAll.none _) (by first | trivial | (simp only [NamelessL, Nameless, and_self, and_true, true_and]; done) | (simp [NamelessL, Nameless, u32s_nameless, namelessL_ints]; done)) (by first | trivial | (simp only [NamelessL, Nameless, and_self, and_true, true_and]; done) | (simp [NamelessL, Nameless, u32s_nameless, namelessL_ints]; done)) ?_
  refine of_eq (B := (True ∧ (True ∧ (True ∧ (True ∧ (((2 : Nat) ≤ (2 : Nat)) ∧ ((((2 : Nat) ≤ (16777216 : Nat)) ∧ ((1 : Nat) ≤ (9223372036854775807 : Nat))) ∧ (((((NamelessL [(D.v (Value.bool xn)), (D.ro (List.length xs) (u32s xs))]) ∧ (((0 : Nat) < (2 : Nat)) ∧ ((2 : Nat) ≤ (2 : Nat)))) ∧ True) ∧ ((((u32s xs) = (u32s (unu (u32s xs)))) ∧ ((List.length xs) = (List.length (unu (u32s xs))))) ∧ True)) ∧ (True ∧ (pcond (Decidable.decide ((40 : Nat) < (List.length (unu (u32s xs))))) (True ∧ (True ∧ (True ∧ (True ∧ ((D.v (Value.bool Bool.true)) = (D.v (Value.bool Bool.true))))))) (True ∧ (True ∧ (True ∧ (True ∧ (pcond (Decidable.decide ((5000 : Int) < (((ByteArray.size s) : Nat) : Int))) (True ∧ (True ∧ (True ∧ ((D.v (Value.bool Bool.true)) = (D.v (Value.bool Bool.true)))))) (True ∧ (((ByteArray.size s) ≤ (100000 : Nat)) ∧ (True ∧ (True ∧ (True ∧ (True ∧ ((((2 : Nat) = (2 : Nat)) ∧ ((2 : Nat) ≤ (2 : Nat))) ∧ (True ∧ (True ∧ (((ByteArray.size s) ≤ (100000 : Nat)) ∧ (True ∧ (True ∧ (True ∧ (True ∧ ((((2 : Nat) = (2 : Nat)) ∧ ((2 : Nat) ≤ (2 : Nat))) ∧ (True ∧ (((2 : Nat) ≤ (2 : Nat)) ∧ (True ∧ (((2 : Nat) ≤ (2 : Nat)) ∧ (True ∧ (((((u32s (Prod.fst (Prod.snd (parS (bys s))))) = (u32s (unu (u32s (Prod.fst (Prod.snd (parS (bys s)))))))) ∧ ((List.length (Prod.fst (Prod.snd (parS (bys s))))) = (List.length (unu (u32s (Prod.fst (Prod.snd (parS (bys s))))))))) ∧ ((((u32s (Prod.fst (Prod.snd (parS (bys s))))) = (u32s (unu (u32s (Prod.fst (Prod.snd (parS (bys s)))))))) ∧ ((List.length (Prod.fst (Prod.snd (parS (bys s))))) = (List.length (unu (u32s (Prod.fst (Prod.snd (parS (bys s))))))))) ∧ ((List.length (unu (u32s (Prod.fst (Prod.snd (parS (bys s))))))) ≤ (1000 : Nat)))) ∧ (True ∧ (pcond (!(((Prod.snd (Prod.snd (parS (bys s)))) == (Prod.snd (Prod.snd (parS (bys s))))) && (((Prod.fst (parS (bys s))) == (Prod.fst (parS (bys s)))) && ((cmpL (unu (u32s (Prod.fst (Prod.snd (parS (bys s)))))) (unu (u32s (Prod.fst (Prod.snd (parS (bys s))))))) == (0 : Int))))) (True ∧ (True ∧ (True ∧ ((D.v (Value.bool Bool.false)) = (D.v (Value.bool Bool.true)))))) (((2 : Nat) ≤ (2 : Nat)) ∧ (((((u32s xs) = (u32s (unu (u32s xs)))) ∧ ((List.length xs) = (List.length (unu (u32s xs))))) ∧ ((List.length (unu (u32s xs))) ≤ (1000000000000 : Nat))) ∧ (True ∧ (pcond (!(validL xn (unu (u32s xs)))) (True ∧ (True ∧ (True ∧ ((D.v (Value.bool Bool.true)) = (D.v (Value.bool Bool.true)))))) (((2 : Nat) ≤ (2 : Nat)) ∧ (((((u32s xs) = (u32s (unu (u32s xs)))) ∧ ((List.length xs) = (List.length (unu (u32s xs))))) ∧ (LenOk (unu (u32s xs)))) ∧ (((ByteArray.size (txtB xn (unu (u32s xs)))) ≤ (100000 : Nat)) ∧ (True ∧ (True ∧ (True ∧ (True ∧ ((((2 : Nat) = (2 : Nat)) ∧ ((2 : Nat) ≤ (2 : Nat))) ∧ (True ∧ (True ∧ (True ∧ (True ∧ (pcond ((Prod.snd (Prod.snd (parS (bys (txtB xn (unu (u32s xs))))))) == (0 : Int)) (((2 : Nat) ≤ (2 : Nat)) ∧ (((2 : Nat) ≤ (2 : Nat)) ∧ (((((u32s xs) = (u32s (unu (u32s xs)))) ∧ ((List.length xs) = (List.length (unu (u32s xs))))) ∧ ((((u32s (Prod.fst (Prod.snd (parS (bys (txtB xn (unu (u32s xs)))))))) = (u32s (unu (u32s (Prod.fst (Prod.snd (parS (bys (txtB xn (unu (u32s xs))))))))))) ∧ ((List.length (Prod.fst (Prod.snd (parS (bys (txtB xn (unu (u32s xs)))))))) = (List.length (unu (u32s (Prod.fst (Prod.snd (parS (bys (txtB xn (unu (u32s xs)))))))))))) ∧ ((List.length (unu (u32s (Prod.fst (Prod.snd (parS (bys (txtB xn (unu (u32s xs)))))))))) ≤ (1000 : Nat)))) ∧ (True ∧ (True ∧ (True ∧ (True ∧ ((D.v (Value.bool (((Prod.fst (parS (bys (txtB xn (unu (u32s xs)))))) == xn) && ((cmpL (unu (u32s (Prod.fst (Prod.snd (parS (bys (txtB xn (unu (u32s xs))))))))) (unu (u32s xs))) == (0 : Int))))) = (D.v (Value.bool Bool.true)))))))))) (True ∧ (True ∧ (True ∧ (True ∧ ((D.v (Value.bool Bool.false)) = (D.v (Value.bool Bool.true)))))))))))))))))))))))))))))))))))))))))))))))))))))))))))))) (by kernel_rfl) ?_
  simp only [true_and, and_true, and_self, IsInt_lit, IsBool_lit, IsStr_lit, Bool.not_eq_true', Bool.not_eq_false', Bool.not_true, Bool.not_false, Int.reduceLE, Int.reduceLT, Int.reduceNeg, Nat.le_refl, Int.le_refl, Nat.reduceLT, Nat.reduceLeDiff, Nat.reduceEqDiff, D.v.injEq, D.tup.injEq, D.agg.injEq, D.ro.injEq, List.cons.injEq, Value.int.injEq, Value.bool.injEq, pcond_true, pcond_false, NamelessL, Nameless, Nat.reduceMul, Nat.reduceAdd, Nat.zero_add, Int.toNat_natCast, unu_u32s, cmpL_self, beq_self_eq_true, Bool.and_self]
  have dx := hpre
  have l1 := parS_len (bys s)
  refine ⟨u32s_nameless _, pcond_intro (fun _ => trivial) (fun h => pcond_intro (fun _ => trivial) (fun h2 => ?_))⟩
  simp only [decide_eq_false_iff_not] at h h2
  refine ⟨by omega, by omega, by omega, by omega, pcond_intro (fun _ => trivial) (fun h3 => ?_)⟩
  simp only [Bool.not_eq_false'] at h3
  have r := par_round (valid_good dx h3).1 h3 (by omega)
  have hs : (txtB xn xs).size ≤ 100000 := by
    rcases Nat.lt_or_ge 4000 (txtB xn xs).size with h4 | h4
    · rw [← bys_length] at h4
      unfold parS at r
      rw [decide_eq_true h4, cond_true] at r
      simp at r
    · omega
  rw [r]
  refine ⟨⟨by omega, dx⟩, hs, ?_⟩
  show _ ∧ _
  exact ⟨by simp only; omega, by simp [cmpL_self]⟩
def ent_lawTexts : Ent := fun ds => match ds with
  | [.agg [.v (.bool xn), .ro n_xs ys_xs], .v (.string s)] => some (.v (.bool true), (ys_xs = u32s (unu ys_xs) ∧ n_xs = (unu ys_xs).length) ∧ Dig (unu ys_xs))
  | _ => none
theorem ent_lawTexts_ok : EntOk Try.prog 9 ent_lawTexts := by
  intro ds d c h hc; unfold ent_lawTexts at h; split at h
  · rename_i xn n_xs ys_xs s; obtain ⟨rfl, rfl⟩ := pair_inj h
    obtain ⟨⟨h1, h2⟩, hc⟩ := hc; subst h2; generalize (unu ys_xs) = xs at *; subst h1
    exact lawTexts_pure _ xs _ hc
  · cases h
end Go.Proofs.Ytgilijgbljgekaa
namespace Go.Proofs.Ytgilijgbljgekaa.integerTexts
open Go.ChangeShapes Go.WideShapes Go.ChangeAt Go.RowKit Go.VD
set_option linter.unusedVariables false
theorem own : ownKnob Try.prog.godebug = none := by kernel_rfl
theorem law : ∀ es, TArgs T Try.f9.params.toList es → PureJ Try.prog 9 es (.v (.bool true)) := by
  intro es h
  have h : TArgs T [24, 9] es := h
  obtain ⟨d0, r0, rfl, h0, d1, r1, rfl, h1, rfl⟩ := h
  obtain ⟨cs0, rfl, k0⟩ := targ_struct T_24 h0
  obtain ⟨b0, xs0, rfl, hx0⟩ := big_inv k0
  obtain ⟨s1, rfl, hs1⟩ := targ_str T_9 h1
  exact lawTexts_pure b0 xs0 s1 hx0
set_option maxRecDepth 100000 in
theorem lifted (os : Os) (started : os.Started) (H : Type) (enc : TypeId × Value → H) :
    ReturnsInHanded {} Try.checked os 9 .any (Rows.integerTextsSpec.pre6 enc Try.prog Try.f9 Rows.integerTextsRow.domain false) (Rows.integerTextsSpec.post enc Try.prog Try.f9 false true false false) := by
  refine returnsInHanded_of_change (C := Try.checked) own started (by kernel_rfl) Try.func9
    (ChangeSpec.witness6 (enc := enc) (C := Try.checked) false ⟨#[], #[.agg #[.bool false, .slice none 0 0], .string .empty], []⟩ 8 (by kernel_rfl) (by kernel_rfl) (by kernel_rfl) (by kernel_rfl)) ?_
  intro W base args ds gs before hval hW hcnd _
  refine law_contract T_ok (by kernel_rfl) (fun t ht => ?_) rfl Try.underlying4 rfl (fun ds hl => ?_) law W (gok_nil rfl) base args ds gs before hval hW
  · have ht : t ∈ [24, 9] := ht
    simp only [List.mem_cons, List.not_mem_nil, or_false] at ht
    rcases ht with rfl | rfl <;> exact ⟨by kernel_rfl, by decide +kernel, by kernel_rfl⟩
  · match ds, hl with
    | [e0, e1], _ => exact ⟨rfl, rfl, rfl⟩
theorem over : Rows.integerTextsRow.holds Try.pinned (OpenSpec.ofChange Rows.integerTextsSpec) :=
  OpenClaim.holds_of_wide 9 Try.f9 rfl rfl rfl rfl rfl rfl rfl ⟨rfl, rfl, rfl, rfl, rfl⟩ rfl rfl rfl rfl rfl (by kernel_rfl) Try.func9 (by kernel_rfl)
    (of_decide_eq_true (by kernel_rfl)) (by unfold Func.isWrapper; first | (rw [if_pos (by decide +kernel)]; kernel_rfl) | (rw [if_neg (by decide +kernel)]; exact ⟨rfl, rfl⟩))
    (fun os started H enc _ => lifted os started H enc)
/-- the given statement -/
theorem proved : Rows.IntegerTextsSaid := over
end Go.Proofs.Ytgilijgbljgekaa.integerTexts
namespace Go.Proofs.Ytgilijgbljgekaa
open Go.VD
end Go.Proofs.Ytgilijgbljgekaa
