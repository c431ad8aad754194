import Derived.Test.YtfleadelfklenaaGreatDoorZGw17
import Derived.Test.YtfleadelfklenaaGreatDoorZGw16
section
namespace Go.Proofs.YtfleadelfklenaaGreatDoor
open Go.VD
set_option linter.unusedVariables false
set_option linter.unusedSimpArgs false
set_option maxRecDepth 100000
def nmE (s : ByteArray) : List D := [d_s s, d_b true]
def tkE (n : Int) : List D := [d_i n, d_b true]
def nmC (l : List ByteArray) : List D := l.flatMap nmE
def tkC (l : List Int) : List D := l.flatMap tkE
def nmM (l : List ByteArray) : List D := .v (.map none) :: .v (.bool false) :: .v (.bool false) :: .v (.int .i64 1) :: .v (.int .i64 1) :: .v (.string ⟨#[]⟩) :: nmC l
def tkM (l : List Int) : List D := .v (.map none) :: .v (.bool false) :: .v (.bool false) :: .v (.int .i64 1) :: .v (.int .i64 1) :: .v (.int .i64 0) :: tkC l
def d_nm (l : List ByteArray) : Option Blk := some ⟨itTy, .v (.map none) :: .v (.bool false) :: .v (.bool false) :: .v (.int .i64 1) :: .v (.int .i64 1) :: .v (.string ⟨#[]⟩) :: nmC l, true⟩
def d_tk (l : List Int) : Option Blk := some ⟨itTy, .v (.map none) :: .v (.bool false) :: .v (.bool false) :: .v (.int .i64 1) :: .v (.int .i64 1) :: .v (.int .i64 0) :: tkC l, true⟩
theorem nmC_app (a b : List ByteArray) : nmC (a ++ b) = nmC a ++ nmC b := by simp [nmC]
theorem tkC_app (a b : List Int) : tkC (a ++ b) = tkC a ++ tkC b := by simp [tkC]
theorem nmC_nl : ∀ l : List ByteArray, NamelessL (nmC l)
  | [] => by simp [nmC, NamelessL]
  | x :: r => by rw [show nmC (x :: r) = nmE x ++ nmC r by simp [nmC]]; exact NamelessL.append (by simp [nmE, NamelessL, Nameless]) (nmC_nl r)
theorem tkC_nl : ∀ l : List Int, NamelessL (tkC l)
  | [] => by simp [tkC, NamelessL]
  | x :: r => by rw [show tkC (x :: r) = tkE x ++ tkC r by simp [tkC]]; exact NamelessL.append (by simp [tkE, NamelessL, Nameless]) (tkC_nl r)
theorem nmM_nl (l : List ByteArray) : NamelessL (nmM l) := by unfold nmM; simp only [NamelessL, Nameless, true_and]; exact nmC_nl l
theorem tkM_nl (l : List Int) : NamelessL (tkM l) := by unfold tkM; simp only [NamelessL, Nameless, true_and]; exact tkC_nl l
def putN (l : List ByteArray) (s : ByteArray) : List ByteArray := bif hasN l s then l else l ++ [s]
def hasI (l : List Int) (n : Int) : Bool := l.any (· == n)
def putI (l : List Int) (n : Int) : List Int := bif hasI l n then l else l ++ [n]
theorem mEnts_nm (l : List ByteArray) : mEnts 2 (nmC l) = l.map nmE := mEnts_flatMap (by omega) fun _ _ => rfl
theorem mEnts_tk (l : List Int) : mEnts 2 (tkC l) = l.map tkE := mEnts_flatMap (by omega) fun _ _ => rfl
theorem chunks_nm (l : List ByteArray) : chunks 2 (nmC l).length (nmC l) = l.map nmE := mEnts_nm l
theorem chunks_tk (l : List Int) : chunks 2 (tkC l).length (tkC l) = l.map tkE := mEnts_tk l
theorem keyEq_nm (z s x : ByteArray) : keyEq [.string z] [d_s s] (nmE x) = sE x s := by
  simp only [keyEq, nmE, cellStr, Bool.and_true, beq_sE]; exact sE_comm _ _
theorem keyEq_tk (z n x : Int) : keyEq [.int .i64 z] [d_i n] (tkE x) = (x == n) := by
  simp only [keyEq, tkE, cellInt, Bool.and_true]; rw [Bool.eq_iff_iff, beq_iff_eq, beq_iff_eq]; exact eq_comm
theorem any_nm (z s : ByteArray) (l : List ByteArray) : ((l.map nmE).any fun e => keyEq [.string z] [d_s s] e) = hasN l s := by
  rw [hasN_any, List.any_map]; congr 1; funext e; simp only [Function.comp_apply, keyEq_nm]
theorem any_tk (z n : Int) (l : List Int) : ((l.map tkE).any fun e => keyEq [.int .i64 z] [d_i n] e) = hasI l n := by
  unfold hasI; rw [List.any_map]; congr 1; funext e; simp only [Function.comp_apply, keyEq_tk]
theorem find_nm (z s : ByteArray) : ∀ l : List ByteArray, (Option.map (fun x => List.drop 1 x) (List.find? (fun e => keyEq [.string z] [d_s s] e) (l.map nmE))).getD [d_b false] = [d_b (hasN l s)]
  | [] => rfl
  | x :: r => by
    rw [List.map_cons, List.find?_cons, keyEq_nm, hasN_any, List.any_cons]
    cases h : sE x s with
    | true => rfl
    | false => rw [Bool.false_or, ← hasN_any]; exact find_nm z s r
theorem find_tk (z n : Int) : ∀ l : List Int, (Option.map (fun x => List.drop 1 x) (List.find? (fun e => keyEq [.int .i64 z] [d_i n] e) (l.map tkE))).getD [d_b false] = [d_b (hasI l n)]
  | [] => rfl
  | x :: r => by
    rw [List.map_cons, List.find?_cons, keyEq_tk, show hasI (x :: r) n = (x == n || hasI r n) from rfl]
    cases h : (x == n) with
    | true => rfl
    | false => rw [Bool.false_or]; exact find_tk z n r
theorem put_nm (z s : ByteArray) (l : List ByteArray) : mPut [.string z] 1 [d_s s] [d_b true] (nmC l) = nmC (putN l s) := by
  unfold mPut mHas putN
  rw [show ([Value.string z].length + 1) = 2 from rfl, mEnts_nm, any_nm]
  cases hasN l s with
  | true =>
    simp only [cond_true]
    rw [List.flatMap_map]; unfold nmC
    congr 1; funext e
    cases keyEq [.string z] [d_s s] (nmE e) <;> rfl
  | false => simp only [cond_false]; rw [nmC_app]; rfl
theorem put_tk (z n : Int) (l : List Int) : mPut [.int .i64 z] 1 [d_i n] [d_b true] (tkC l) = tkC (putI l n) := by
  unfold mPut mHas putI
  rw [show ([Value.int IntKind.i64 z].length + 1) = 2 from rfl, mEnts_tk, any_tk]
  cases hasI l n with
  | true =>
    simp only [cond_true]
    rw [List.flatMap_map]; unfold tkC
    congr 1; funext e
    cases keyEq [.int .i64 z] [d_i n] (tkE e) <;> rfl
  | false => simp only [cond_false]; rw [tkC_app]; rfl
theorem enterS_call (l : List ByteArray) (s : ByteArray) : CallJ Tryz.prog 145 [.ifc itTy (.ptr 0 0), .v (.string s)] ([d_nm l]) (.v (.bool (!hasN l s))) ([d_nm (putN l s)]) := by
  refine callJ_of_vck (k := 1) (call := noCalls) (lp := fun _ => none) (N := 10) T_ok mixed noCalls_ok Tryz.func145 rfl (by decide) (by kernel_rfl) (by kernel_rfl) rfl (LpAllK.none _) ?_
  refine of_eq (B := letI z9 := (D.v (Value.map (Option.none))); letI z2 := Value.bool Bool.false; letI z5 := (D.v (Value.int IntKind.i64 (1 : Int))); letI z0 := (List.cons z9 (List.cons (D.v z2) (List.cons (D.v z2) (List.cons z5 (List.cons z5 (List.cons (D.v (Value.string (ByteArray.mk (Array.mk ([] : List UInt8))))) (nmC l))))))); letI z10 := Value.string ByteArray.empty; letI z1 := (TI.mk TD.str (1 : Nat) (16 : Nat) [z10]); letI z12 := (List.drop (6 : Nat) z0); letI z3 := (chunks (2 : Nat) (List.length z12) z12); letI z4 := (D.v (Value.string s)); letI z8 := (TI.mk TD.bool (1 : Nat) (1 : Nat) [z2]); letI z6 := (List.drop (List.length (hdrOf z1 z8)) z0); letI z7 := (List.length (TI.zero z1)); letI z11 := (D.v (Value.bool Bool.true)); letI z13 := ((IsStr z4) ∧ True); (True ∧ (True ∧ (True ∧ ((z13 ∧ ((IsBool (List.getD (Option.getD (Option.map (fun (x : (List D)) => (List.drop z7 x)) (List.find? (fun (e : (List D)) => (keyEq (TI.zero z1) [z4] e)) z3)) [(D.v z2)]) (0 : Nat) (Inhabited.default))) ∧ True)) ∧ (True ∧ (True ∧ (True ∧ ((z13 ∧ ((1 : Nat) = (1 : Nat))) ∧ (True ∧ (True ∧ (True ∧ (True ∧ (∃ (kp : (List KE)), (viewFin (1 : Nat) kp [(Option.some (Blk.mk (1000000007 : Nat) (List.cons z9 (List.cons (D.v z2) (List.cons (D.v z2) (List.cons z5 (List.cons z5 (List.cons (D.v z10) (List.append ([] : List D) (cond.match_1 (fun (c : Bool) => (List D)) (List.any z3 (fun (e : (List D)) => (keyEq (TI.zero z1) [z4] e))) (fun (_ : Unit) => (List.flatMap (fun (e : (List D)) => (cond (keyEq (TI.zero z1) [z4] e) ((List.take z7 e) ++ [z11]) e)) (mEnts (z7 + (TI.size z8)) z6))) (fun (_ : Unit) => (z6 ++ ([z4] ++ [z11]))))))))))) Bool.true))] (D.v (Value.bool (!(cellBool (List.getD (Option.getD (Option.map (fun (x : (List D)) => (List.drop z7 x)) (List.find? (fun (e : (List D)) => (keyEq (TI.zero z1) [z4] e)) z3)) [(D.v z2)]) (0 : Nat) (Inhabited.default)))))) (D.v (Value.bool (!(hasN l s)))) [(d_nm (putN l s))]))))))))))))))) (by kernel_rfl) ?_
  simp only [true_and, and_true, and_self, IsInt_lit, IsBool_lit, IsStr_lit, IsSl_lit, cellN_lit, cellL_lit, Bool.not_eq_true', Bool.not_eq_false', Bool.not_true, Bool.not_false, Int.reduceLE, Int.reduceLT, Int.reduceNeg, Nat.le_refl, Int.le_refl, Nat.reduceLT, Nat.reduceLeDiff, Nat.reduceEqDiff, D.v.injEq, D.tup.injEq, D.agg.injEq, D.ro.injEq, List.cons.injEq, Value.int.injEq, Value.bool.injEq, pcond_true, pcond_false, NamelessL, Nameless, Nat.reduceMul, Nat.reduceAdd, Nat.zero_add, Int.toNat_natCast]
  have e1 := find_nm ByteArray.empty s l
  have hc : nmM (putN l s) = .v (.map none) :: .v (.bool false) :: .v (.bool false) :: .v (.int .i64 1) :: .v (.int .i64 1) :: .v (.string ⟨#[]⟩) :: mPut [.string ⟨#[]⟩] 1 [d_s s] [d_b true] (nmC l) := by rw [put_nm]; rfl
  have hn := nmM_nl (putN l s)
  rw [hc] at hn
  refine ⟨by simp only [List.drop_succ_cons, List.drop_zero, chunks_nm, List.length_cons, List.length_nil, Nat.zero_add]; rw [e1]; trivial, [.old 0], rfl, ⟨⟨(congrArg (fun c => some (Blk.mk itTy c true)) hc).trans rfl, hn⟩, rfl⟩, ?_⟩
  simp only [List.drop_succ_cons, List.drop_zero, chunks_nm, List.length_cons, List.length_nil, Nat.zero_add]
  rw [e1]
  exact ⟨trivial, rfl⟩
theorem enterI_call (l : List Int) (n : Int) : CallJ Tryz.prog 147 [.ifc itTy (.ptr 0 0), .v (.int .i64 n)] ([d_tk l]) (.v (.bool (!hasI l n))) ([d_tk (putI l n)]) := by
  refine callJ_of_vck (k := 1) (call := noCalls) (lp := fun _ => none) (N := 10) T_ok mixed noCalls_ok Tryz.func147 rfl (by decide) (by kernel_rfl) (by kernel_rfl) rfl (LpAllK.none _) ?_
  refine of_eq (B := letI z11 := (D.v (Value.map (Option.none))); letI z3 := Value.bool Bool.false; letI z5 := (D.v (Value.int IntKind.i64 (1 : Int))); letI z8 := (Value.int IntKind.i64 (0 : Int)); letI z0 := (List.cons z11 (List.cons (D.v z3) (List.cons (D.v z3) (List.cons z5 (List.cons z5 (List.cons (D.v z8) (tkC l))))))); letI z1 := (TI.mk (TD.int IntKind.i64) (1 : Nat) (8 : Nat) [z8]); letI z2 := (D.v (Value.int IntKind.i64 n)); letI z13 := (List.drop (6 : Nat) z0); letI z4 := (chunks (2 : Nat) (List.length z13) z13); letI z9 := (TI.mk TD.bool (1 : Nat) (1 : Nat) [z3]); letI z6 := (List.drop (List.length (hdrOf z1 z9)) z0); letI z7 := (List.length (TI.zero z1)); letI z10 := ((IsInt IntKind.i64 z2) ∧ True); letI z12 := (D.v (Value.bool Bool.true)); (True ∧ (True ∧ (True ∧ ((z10 ∧ ((IsBool (List.getD (Option.getD (Option.map (fun (x : (List D)) => (List.drop z7 x)) (List.find? (fun (e : (List D)) => (keyEq (TI.zero z1) [z2] e)) z4)) [(D.v z3)]) (0 : Nat) (Inhabited.default))) ∧ True)) ∧ (True ∧ (True ∧ (True ∧ ((z10 ∧ ((1 : Nat) = (1 : Nat))) ∧ (True ∧ (True ∧ (True ∧ (True ∧ (∃ (kp : (List KE)), (viewFin (1 : Nat) kp [(Option.some (Blk.mk (1000000007 : Nat) (List.cons z11 (List.cons (D.v z3) (List.cons (D.v z3) (List.cons z5 (List.cons z5 (List.cons (D.v z8) (List.append ([] : List D) (cond.match_1 (fun (c : Bool) => (List D)) (List.any z4 (fun (e : (List D)) => (keyEq (TI.zero z1) [z2] e))) (fun (_ : Unit) => (List.flatMap (fun (e : (List D)) => (cond (keyEq (TI.zero z1) [z2] e) ((List.take z7 e) ++ [z12]) e)) (mEnts (z7 + (TI.size z9)) z6))) (fun (_ : Unit) => (z6 ++ ([z2] ++ [z12]))))))))))) Bool.true))] (D.v (Value.bool (!(cellBool (List.getD (Option.getD (Option.map (fun (x : (List D)) => (List.drop z7 x)) (List.find? (fun (e : (List D)) => (keyEq (TI.zero z1) [z2] e)) z4)) [(D.v z3)]) (0 : Nat) (Inhabited.default)))))) (D.v (Value.bool (!(hasI l n)))) [(d_tk (putI l n))]))))))))))))))) (by kernel_rfl) ?_
  simp only [true_and, and_true, and_self, IsInt_lit, IsBool_lit, IsStr_lit, IsSl_lit, cellN_lit, cellL_lit, Bool.not_eq_true', Bool.not_eq_false', Bool.not_true, Bool.not_false, Int.reduceLE, Int.reduceLT, Int.reduceNeg, Nat.le_refl, Int.le_refl, Nat.reduceLT, Nat.reduceLeDiff, Nat.reduceEqDiff, D.v.injEq, D.tup.injEq, D.agg.injEq, D.ro.injEq, List.cons.injEq, Value.int.injEq, Value.bool.injEq, pcond_true, pcond_false, NamelessL, Nameless, Nat.reduceMul, Nat.reduceAdd, Nat.zero_add, Int.toNat_natCast]
  have e1 := find_tk 0 n l
  have hc : tkM (putI l n) = .v (.map none) :: .v (.bool false) :: .v (.bool false) :: .v (.int .i64 1) :: .v (.int .i64 1) :: .v (.int .i64 0) :: mPut [.int .i64 0] 1 [d_i n] [d_b true] (tkC l) := by rw [put_tk]; rfl
  have hn := tkM_nl (putI l n)
  rw [hc] at hn
  refine ⟨by simp only [List.drop_succ_cons, List.drop_zero, chunks_tk, List.length_cons, List.length_nil, Nat.zero_add]; rw [e1]; trivial, [.old 0], rfl, ⟨⟨(congrArg (fun c => some (Blk.mk itTy c true)) hc).trans rfl, hn⟩, rfl⟩, ?_⟩
  simp only [List.drop_succ_cons, List.drop_zero, chunks_tk, List.length_cons, List.length_nil, Nat.zero_add]
  rw [e1]
  exact ⟨trivial, rfl⟩
end Go.Proofs.YtfleadelfklenaaGreatDoor
end
section
namespace Go.Proofs.YtfleadelfklenaaGreatDoor
open Go.VD
set_option linter.unusedVariables false
set_option linter.unusedSimpArgs false
set_option maxRecDepth 100000
def byZ (c : Int) : Bool := decide (32 ≤ c) && (decide (c ≤ 126) && !(c == 34))
theorem byZ_nat (n : Nat) : byZ (n : Int) = byB n := by
  unfold byZ byB
  rw [Bool.eq_iff_iff]; simp; omega
theorem byB_lt (n : Nat) (h : byB n = true) : n < 128 := by
  unfold byB at h; simp at h; omega
def txI (s : ByteArray) : Int := match (List.range s.size).find? (fun i => !byB (bt s i)) with
  | some i => (i : Int)
  | none => -1
theorem txI_none {s : ByteArray} (h : ∀ i, i < s.size → byB (bt s i) = true) : txI s = -1 := by
  unfold txI; rw [List.find?_eq_none.2]
  intro i hi; rw [h i (List.mem_range.1 hi)]; simp
theorem txI_some {s : ByteArray} {i : Nat} (hi : i < s.size) (h : ∀ j, j < i → byB (bt s j) = true) (he : byB (bt s i) = false) : txI s = (i : Int) := by
  unfold txI
  have : (List.range s.size).find? (fun i => !byB (bt s i)) = some i := by
    rw [List.find?_range_eq_some]
    exact ⟨by rw [he]; rfl, List.mem_range.2 hi, fun j hj => by rw [h j hj]; rfl⟩
  rw [this]
theorem txI_txt (s : ByteArray) : decide (0 ≤ txI s) = !txtB s := by
  unfold txI txtB
  rw [Bool.eq_iff_iff, Bool.not_eq_true']
  cases h : (List.range s.size).find? (fun i => !byB (bt s i)) with
  | none =>
    rw [List.find?_eq_none] at h
    simp only [decide_eq_true_eq]
    refine ⟨fun h => by omega, fun h2 => ?_⟩
    rw [List.all_eq_false] at h2
    obtain ⟨x, hx, h3⟩ := h2
    exact absurd (by simpa using h3) (h x hx)
  | some i =>
    simp only [decide_eq_true_eq]
    refine ⟨fun _ => ?_, fun _ => by omega⟩
    rw [List.all_eq_false]
    exact ⟨i, List.mem_of_find?_eq_some h, by simpa using List.find?_some h⟩
theorem p7unq_pure (c : Int) : PureJ Tryz.prog 158 [.v (.int .i32 c)] (.v (.bool (!byZ c))) := by
  refine pureJ_of_vcx (call := noCalls) (lp := fun _ => none) (N := 10) T_ok mixed noCalls_ok Tryz.func158 rfl (by decide) (by kernel_rfl) (by kernel_rfl) (LpAll.none _) (by first | trivial | (simp only [NamelessL, Nameless, and_self, and_true, true_and]; done) | (simp [NamelessL, Nameless, u32s_nameless, namelessL_ints]; done)) (by first | trivial | (simp only [NamelessL, Nameless, and_self, and_true, true_and]; done) | (simp [NamelessL, Nameless, u32s_nameless, namelessL_ints]; done)) ?_
  refine of_eq (B := letI z1 := (D.v (Value.bool (!(byZ c)))); letI z0 := (True ∧ (True ∧ (True ∧ (True ∧ ((D.v (Value.bool Bool.true)) = z1))))); (True ∧ (True ∧ (True ∧ (True ∧ (pcond (Decidable.decide (c < (32 : Int))) (True ∧ (True ∧ z0)) (True ∧ (True ∧ (True ∧ (True ∧ (pcond (Decidable.decide ((126 : Int) < c)) z0 (True ∧ (True ∧ (True ∧ (True ∧ (True ∧ (True ∧ ((D.v (Value.bool (c == (34 : Int)))) = z1)))))))))))))))))) (by kernel_rfl) ?_
  simp only [true_and, and_true, and_self, IsInt_lit, IsBool_lit, IsStr_lit, IsSl_lit, cellN_lit, cellL_lit, Bool.not_eq_true', Bool.not_eq_false', Bool.not_true, Bool.not_false, Int.reduceLE, Int.reduceLT, Int.reduceNeg, Nat.le_refl, Int.le_refl, Nat.reduceLT, Nat.reduceLeDiff, Nat.reduceEqDiff, D.v.injEq, D.tup.injEq, D.agg.injEq, D.ro.injEq, List.cons.injEq, Value.int.injEq, Value.bool.injEq, pcond_true, pcond_false, NamelessL, Nameless, Nat.reduceMul, Nat.reduceAdd, Nat.zero_add, Int.toNat_natCast]
  unfold byZ
  repeat' (refine pcond_intro (fun _ => ?_) (fun _ => ?_))
  all_goals (simp_all; try omega)
def ent_p7unq : Ent := fun ds => match ds with
  | [.v (.int .i32 c)] => some (.v (.bool (!byZ c)), True)
  | _ => none
theorem ent_p7unq_ok : EntOk Tryz.prog 158 ent_p7unq := by
  intro ds d c h hc; unfold ent_p7unq at h; split at h
  · obtain ⟨rfl, rfl⟩ := pair_inj h; exact p7unq_pure _
  · cases h
def lp_idxfL (s : ByteArray) : LoopO := loopRule2 (α := Nat) (β := Unit) (γ := Nat) [some 0] (fun n => n ≤ s.size ∧ ∀ i, i < n → byB (bt s i) = true) (fun n => [(1, .fn 158 0 []), (2, .v (.bool true)), (10, .ptr 0 0)]) (fun n => [some ⟨itTy, [.v (.string s), .v (.int .i64 (n : Int))], true⟩]) (0) (fun _ => txI s = -1) (fun _ => (.exit 0, [], [])) (fun i => txI s = (i : Int)) (fun i => (.ret, [(6, d_i (i : Int))], []))
theorem idxfL_rule (s : ByteArray) (hpre : s.size ≤ 9223372036854775807) : LRuleP Tryz.prog Tryz.f220.ntmps (loopAt ((Tryz.f220.body).getD .skip) 2) (lp_idxfL s) := by
  refine lrule_of2 (α := Nat) (β := Unit) (γ := Nat) (call := (addPure 158 ent_p7unq noCalls)) (lp := fun _ => none) (N := 10) T_ok mixed (addPure_ok ent_p7unq_ok noCalls_ok) (fun n => s.size - n) (by kernel_rfl) (LpAllP.none _) ?_
  intro x hJ
  refine of_eq (B := letI z12 := (D.v (Value.string s)); letI z4 := (Int.toNat ((x : Nat) : Int)); letI z0 := (Option.some (Blk.mk (1000000007 : Nat) [z12, (D.v (Value.int IntKind.i64 (((z4 + (Prod.snd (Utf8.decode s z4))) : Nat) : Int)))] Bool.true)); letI z5 := (Exit.exit (0 : Nat)); letI z7 := ([] : List (Prod Nat D)); letI z3 := ([] : List (Option Blk)); letI z1 := (Prod.mk z5 (Prod.mk z7 z3)); letI z11 := (D.v (Value.int IntKind.i64 ((x : Nat) : Int))); letI z2 := (Option.some (Blk.mk (1000000007 : Nat) [z12, z11] Bool.true)); letI z6 := (List (Option Nat)); letI z8 := ByteArray.size s; letI z9 := (Prod.mk (2 : Nat) (D.v (Value.bool Bool.true))); letI z10 := (Prod.mk (10 : Nat) (D.ptr (0 : Nat) (0 : Nat))); letI z13 := ((txI s) = (-(1 : Int))); (pcond (Decidable.decide (z4 < z8)) (True ∧ (True ∧ (True ∧ (True ∧ (True ∧ (True ∧ (True ∧ (True ∧ (True ∧ (True ∧ (pcond ((!(byZ (((Prod.fst (Utf8.decode s z4)) : Nat) : Int))) == Bool.true) (True ∧ (True ∧ ((∃ (r : Unit), (∃ (kp : z6), (z13 ∧ ((Exit.ret = z5) ∧ (viewAll kp z7 [z0] (Prod.fst (Prod.snd ((fun (x_1 : Unit) => z1) r))) (Prod.snd (Prod.snd ((fun (x_1 : Unit) => z1) r)))))))) ∨ (∃ (r : Nat), (∃ (kp : z6), (((txI s) = ((r : Nat) : Int)) ∧ ((Exit.ret = Exit.ret) ∧ (viewAll kp [(Prod.mk (6 : Nat) z11)] [z0] (Prod.fst (Prod.snd ((fun (i : Nat) => (Prod.mk Exit.ret (Prod.mk [(Prod.mk (6 : Nat) (d_i ((i : Nat) : Int)))] z3))) r))) (Prod.snd (Prod.snd ((fun (i : Nat) => (Prod.mk Exit.ret (Prod.mk [(Prod.mk (6 : Nat) (d_i ((i : Nat) : Int)))] z3))) r))))))))))) (∃ (y : Nat), (∃ (kp : z6), (((z8 - y) < (z8 - x)) ∧ (((y ≤ z8) ∧ (∀ (i : Nat), ((i < y) → ((byB (bt s i)) = Bool.true)))) ∧ (viewAll kp [(Prod.mk (1 : Nat) (D.fn (158 : Nat) (0 : Nat) ([] : List D))), z9, z10] [z0] [(Prod.mk (1 : Nat) (D.fn (158 : FuncId) (0 : Nat) ([] : List D))), z9, z10] [(Option.some (Blk.mk itTy [z12, (D.v (Value.int IntKind.i64 ((y : Nat) : Int)))] Bool.true))])))))))))))))))) (True ∧ ((∃ (r : Unit), (∃ (kp : z6), (z13 ∧ ((z5 = z5) ∧ (viewAll kp z7 [z2] (Prod.fst (Prod.snd ((fun (x_1 : Unit) => z1) r))) (Prod.snd (Prod.snd ((fun (x_1 : Unit) => z1) r)))))))) ∨ (∃ (r : Nat), (∃ (kp : z6), (((txI s) = ((r : Nat) : Int)) ∧ ((z5 = Exit.ret) ∧ (viewAll kp z7 [z2] (Prod.fst (Prod.snd ((fun (i : Nat) => (Prod.mk Exit.ret (Prod.mk [(Prod.mk (6 : Nat) (d_i ((i : Nat) : Int)))] z3))) r))) (Prod.snd (Prod.snd ((fun (i : Nat) => (Prod.mk Exit.ret (Prod.mk [(Prod.mk (6 : Nat) (d_i ((i : Nat) : Int)))] z3))) r)))))))))))) (by kernel_rfl) ?_
  simp only [true_and, and_true, and_self, IsInt_lit, IsBool_lit, IsStr_lit, IsSl_lit, cellN_lit, cellL_lit, Bool.not_eq_true', Bool.not_eq_false', Bool.not_true, Bool.not_false, Int.reduceLE, Int.reduceLT, Int.reduceNeg, Nat.le_refl, Int.le_refl, Nat.reduceLT, Nat.reduceLeDiff, Nat.reduceEqDiff, D.v.injEq, D.tup.injEq, D.agg.injEq, D.ro.injEq, List.cons.injEq, Value.int.injEq, Value.bool.injEq, pcond_true, pcond_false, NamelessL, Nameless, Nat.reduceMul, Nat.reduceAdd, Nat.zero_add, Int.toNat_natCast] at *
  obtain ⟨hx, hall⟩ := hJ
  obtain ⟨p1, p2⟩ := dec_pred byB_lt s x
  refine pcond_intro (fun h => ?_) (fun h => .inl ⟨(), [], ?_, ⟨rfl, rfl, trivial⟩⟩)
  · simp only [decide_eq_true_eq] at h
    rw [byZ_nat, p1]
    cases hN : byB (bt s x) with
    | true =>
      rw [p2 hN]
      exact ⟨x + 1, [some 0], by omega, ⟨by omega, fun i hi => by
        rcases Nat.lt_or_ge i x with h2 | h2
        · exact hall i h2
        · rw [show i = x by omega]; exact hN⟩, ⟨rfl, ⟨⟨rfl, trivial, trivial, trivial⟩, rfl⟩, ⟨trivial, rfl⟩, ⟨trivial, rfl⟩, ⟨trivial, rfl⟩, trivial⟩⟩
    | false => exact .inr ⟨x, [], txI_some h hall hN, ⟨rfl, rfl, ⟨trivial, rfl⟩, trivial⟩⟩
  · simp only [decide_eq_false_iff_not] at h
    exact txI_none fun i hi => hall i (by omega)
theorem p7ix_pure (s : ByteArray) (hpre : s.size ≤ 9223372036854775807) : PureJ Tryz.prog 220 [.v (.string s), .fn 158 0 [], .v (.bool true)] (.v (.int .i64 (txI s))) := by
  refine pureJ_of_vcp (call := noCalls) (lp := fun reg__ => bif Nat.beq reg__ 2 then some (lp_idxfL s) else none) (N := 10) T_ok mixed noCalls_ok Tryz.func220 rfl (by decide) (by kernel_rfl) (by kernel_rfl) (of_eq (B := LRuleP Tryz.prog Tryz.f220.ntmps (loopAt ((Tryz.f220.body).getD .skip) 2) (lp_idxfL s) ∧ True) (by kernel_rfl) ⟨idxfL_rule s hpre, trivial⟩) (by first | trivial | (simp only [NamelessL, Nameless, and_self, and_true, true_and]; done) | (simp [NamelessL, Nameless, u32s_nameless, namelessL_ints]; done)) (by first | trivial | (simp only [NamelessL, Nameless, and_self, and_true, true_and]; done) | (simp [NamelessL, Nameless, u32s_nameless, namelessL_ints]; done)) ?_
  refine of_eq (B := letI z7 := (D.v (Value.string s)); letI z2 := (D.v (Value.int IntKind.i64 (0 : Int))); letI z0 := (Option.some (Blk.mk (1000000007 : Nat) [z7, z2] Bool.true)); letI z1 := (D.fn (158 : Nat) (0 : Nat) ([] : List D)); letI z3 := (D.v (Value.int IntKind.i64 (txI s))); letI z4 := (D.v (Value.bool Bool.true)); letI z5 := (D.ptr (0 : Nat) (0 : Nat)); letI z6 := ([] : List (Option Blk)); (True ∧ (True ∧ (True ∧ ((((0 : Nat) ≤ (ByteArray.size s)) ∧ (∀ (i : Nat), ((i < (0 : Nat)) → ((byB (bt s i)) = Bool.true)))) ∧ (((Bool.true = Bool.true) ∧ ((((z0 = z0) ∧ (NamelessL [z7, z2])) ∧ (z6 = z6)) ∧ ((True ∧ (z1 = z1)) ∧ ((True ∧ (z4 = z4)) ∧ ((True ∧ (z5 = z5)) ∧ True))))) ∧ ((Unit → (((txI s) = (-(1 : Int))) → (True ∧ (True ∧ (True ∧ ((D.v (Value.int IntKind.i64 (-(1 : Int)))) = z3)))))) ∧ (∀ (r : Nat), (((txI s) = ((r : Nat) : Int)) → (True ∧ (True ∧ ((D.v (Value.int IntKind.i64 ((r : Nat) : Int))) = z3)))))))))))) (by kernel_rfl) ?_
  simp only [true_and, and_true, and_self, IsInt_lit, IsBool_lit, IsStr_lit, IsSl_lit, cellN_lit, cellL_lit, Bool.not_eq_true', Bool.not_eq_false', Bool.not_true, Bool.not_false, Int.reduceLE, Int.reduceLT, Int.reduceNeg, Nat.le_refl, Int.le_refl, Nat.reduceLT, Nat.reduceLeDiff, Nat.reduceEqDiff, D.v.injEq, D.tup.injEq, D.agg.injEq, D.ro.injEq, List.cons.injEq, Value.int.injEq, Value.bool.injEq, pcond_true, pcond_false, NamelessL, Nameless, Nat.reduceMul, Nat.reduceAdd, Nat.zero_add, Int.toNat_natCast]
  exact ⟨⟨Nat.zero_le _, fun i h => absurd h (Nat.not_lt_zero _)⟩, fun _ h => h.symm, fun _ h => h.symm⟩
def ent_p7ix : Ent := fun ds => match ds with
  | [.v (.string s), .fn 158 0 [], .v (.bool true)] => some (.v (.int .i64 (txI s)), s.size ≤ 9223372036854775807)
  | _ => none
theorem ent_p7ix_ok : EntOk Tryz.prog 220 ent_p7ix := by
  intro ds d c h hc; unfold ent_p7ix at h; split at h
  · obtain ⟨rfl, rfl⟩ := pair_inj h; exact p7ix_pure _ hc
  · cases h
theorem p7ix2_pure (s : ByteArray) (hpre : s.size ≤ 9223372036854775807) : PureJ Tryz.prog 203 [.v (.string s), .fn 158 0 []] (.v (.int .i64 (txI s))) := by
  refine pureJ_of_vcx (call := (addPure 220 ent_p7ix noCalls)) (lp := fun _ => none) (N := 10) T_ok mixed (addPure_ok ent_p7ix_ok noCalls_ok) Tryz.func203 rfl (by decide) (by kernel_rfl) (by kernel_rfl) (LpAll.none _) (by first | trivial | (simp only [NamelessL, Nameless, and_self, and_true, true_and]; done) | (simp [NamelessL, Nameless, u32s_nameless, namelessL_ints]; done)) (by first | trivial | (simp only [NamelessL, Nameless, and_self, and_true, true_and]; done) | (simp [NamelessL, Nameless, u32s_nameless, namelessL_ints]; done)) ?_
  refine of_eq (B := letI z0 := (D.v (Value.int IntKind.i64 (txI s))); (True ∧ (True ∧ (True ∧ (((ByteArray.size s) ≤ (9223372036854775807 : Nat)) ∧ (True ∧ (True ∧ (True ∧ (z0 = z0))))))))) (by kernel_rfl) ?_
  simp only [true_and, and_true, and_self, IsInt_lit, IsBool_lit, IsStr_lit, IsSl_lit, cellN_lit, cellL_lit, Bool.not_eq_true', Bool.not_eq_false', Bool.not_true, Bool.not_false, Int.reduceLE, Int.reduceLT, Int.reduceNeg, Nat.le_refl, Int.le_refl, Nat.reduceLT, Nat.reduceLeDiff, Nat.reduceEqDiff, D.v.injEq, D.tup.injEq, D.agg.injEq, D.ro.injEq, List.cons.injEq, Value.int.injEq, Value.bool.injEq, pcond_true, pcond_false, NamelessL, Nameless, Nat.reduceMul, Nat.reduceAdd, Nat.zero_add, Int.toNat_natCast]
  first | exact ⟨hpre, rfl⟩ | exact hpre
def ent_p7ix2 : Ent := fun ds => match ds with
  | [.v (.string s), .fn 158 0 []] => some (.v (.int .i64 (txI s)), s.size ≤ 9223372036854775807)
  | _ => none
theorem ent_p7ix2_ok : EntOk Tryz.prog 203 ent_p7ix2 := by
  intro ds d c h hc; unfold ent_p7ix2 at h; split at h
  · obtain ⟨rfl, rfl⟩ := pair_inj h; exact p7ix2_pure _ hc
  · cases h
theorem p7cnt_pure (s : ByteArray) (hpre : s.size ≤ 9223372036854775807) : PureJ Tryz.prog 157 [.v (.string s), .fn 158 0 []] (.v (.bool (!txtB s))) := by
  refine pureJ_of_vcx (call := (addPure 203 ent_p7ix2 noCalls)) (lp := fun _ => none) (N := 10) T_ok mixed (addPure_ok ent_p7ix2_ok noCalls_ok) Tryz.func157 rfl (by decide) (by kernel_rfl) (by kernel_rfl) (LpAll.none _) (by first | trivial | (simp only [NamelessL, Nameless, and_self, and_true, true_and]; done) | (simp [NamelessL, Nameless, u32s_nameless, namelessL_ints]; done)) (by first | trivial | (simp only [NamelessL, Nameless, and_self, and_true, true_and]; done) | (simp [NamelessL, Nameless, u32s_nameless, namelessL_ints]; done)) ?_
  refine of_eq (B := (True ∧ (True ∧ (True ∧ (((ByteArray.size s) ≤ (9223372036854775807 : Nat)) ∧ (True ∧ (True ∧ (True ∧ (True ∧ ((D.v (Value.bool (Decidable.decide ((0 : Int) ≤ (txI s))))) = (D.v (Value.bool (!(txtB s)))))))))))))) (by kernel_rfl) ?_
  simp only [true_and, and_true, and_self, IsInt_lit, IsBool_lit, IsStr_lit, IsSl_lit, cellN_lit, cellL_lit, Bool.not_eq_true', Bool.not_eq_false', Bool.not_true, Bool.not_false, Int.reduceLE, Int.reduceLT, Int.reduceNeg, Nat.le_refl, Int.le_refl, Nat.reduceLT, Nat.reduceLeDiff, Nat.reduceEqDiff, D.v.injEq, D.tup.injEq, D.agg.injEq, D.ro.injEq, List.cons.injEq, Value.int.injEq, Value.bool.injEq, pcond_true, pcond_false, NamelessL, Nameless, Nat.reduceMul, Nat.reduceAdd, Nat.zero_add, Int.toNat_natCast]
  rw [txI_txt s]; first | exact ⟨hpre, rfl⟩ | exact hpre
def ent_p7cnt : Ent := fun ds => match ds with
  | [.v (.string s), .fn 158 0 []] => some (.v (.bool (!txtB s)), s.size ≤ 9223372036854775807)
  | _ => none
theorem ent_p7cnt_ok : EntOk Tryz.prog 157 ent_p7cnt := by
  intro ds d c h hc; unfold ent_p7cnt at h; split at h
  · obtain ⟨rfl, rfl⟩ := pair_inj h; exact p7cnt_pure _ hc
  · cases h
theorem allNm_of {l : List ByteArray} (h : ∀ j, j < l.length → nameS (l.getD j default) = true) : allNm l = true := by
  unfold allNm; rw [List.all_eq_true]; intro j hj; exact h j (List.mem_range.1 hj)
theorem allNm_not {l : List ByteArray} {j : Nat} (hj : j < l.length) (h : nameS (l.getD j default) = false) : allNm l = false := by
  unfold allNm; rw [List.all_eq_false]; exact ⟨j, List.mem_range.2 hj, by rw [h]; simp⟩
def lp_allL (l : List ByteArray) : LoopO := loopRule2 (α := Nat) (β := Unit) (γ := Unit) [] (fun i => i ≤ l.length ∧ ∀ j, j < i → nameS (l.getD j default) = true) (fun i => [(5, .ro l.length (busesD l)), (6, d_i (l.length : Int)), (7, d_i (i : Int))]) (fun i => []) (0) (fun _ => allNm l = true) (fun _ => (.exit 0, [], [])) (fun _ => allNm l = false) (fun _ => (.ret, [(2, .v (.bool false))], []))
theorem allL_rule (l : List ByteArray) (hpre : l.length ≤ maxLen ∧ ∀ x ∈ l, x.size ≤ maxLen) : LRuleP Tryz.prog Tryz.f159.ntmps (loopAt ((Tryz.f159.body).getD .skip) 2) (lp_allL l) := by
  refine lrule_of2 (α := Nat) (β := Unit) (γ := Unit) (call := (addPure 67 ent_name noCalls)) (lp := fun _ => none) (N := 10) T_ok mixed (addPure_ok ent_name_ok noCalls_ok) (fun i => l.length - i) (by kernel_rfl) (LpAllP.none _) ?_
  intro x hJ
  refine of_eq (B := letI z9 := (Prod.mk (2 : Nat) (D.v (Value.bool Bool.false))); letI z3 := ([] : List (Option Blk)); letI z0 := (Prod.mk Exit.ret (Prod.mk [z9] z3)); letI z5 := (Exit.exit (0 : Nat)); letI z8 := ([] : List (Prod Nat D)); letI z1 := (Prod.mk z5 (Prod.mk z8 z3)); letI z6 := ((x : Nat) : Int); letI z12 := ((Int.toNat z6) * (1 : Nat)); letI z2 := (List.getD (busesD l) z12 (Inhabited.default)); letI z4 := List.length l; letI z7 := (List (Option Nat)); letI z10 := ((z4 : Nat) : Int); letI z11 := (Prod.mk (5 : Nat) (D.ro z4 (busesD l))); letI z13 := ((allNm l) = Bool.false); letI z14 := ((allNm l) = Bool.true); (True ∧ (pcond (Decidable.decide (z6 < z10)) ((((0 : Int) ≤ z6) ∧ (z6 < z10)) ∧ (((z12 < (List.length (busesD l))) ∧ (IsStr z2)) ∧ (True ∧ (True ∧ (((ByteArray.size (cellStr z2)) ≤ (9223372036854775807 : Nat)) ∧ (True ∧ (pcond (!(nameS (cellStr z2))) (True ∧ ((∃ (r : Unit), (∃ (kp : z7), (z14 ∧ ((Exit.ret = z5) ∧ (viewAll kp z8 z3 (Prod.fst (Prod.snd ((fun (x_1 : Unit) => z1) r))) (Prod.snd (Prod.snd ((fun (x_1 : Unit) => z1) r)))))))) ∨ (∃ (r : Unit), (∃ (kp : z7), (z13 ∧ ((Exit.ret = Exit.ret) ∧ (viewAll kp [z9] z3 (Prod.fst (Prod.snd ((fun (x_1 : Unit) => z0) r))) (Prod.snd (Prod.snd ((fun (x_1 : Unit) => z0) r)))))))))) (True ∧ (True ∧ (∃ (y : Nat), (∃ (kp : z7), (((z4 - y) < (z4 - x)) ∧ (((y ≤ z4) ∧ (∀ (j : Nat), ((j < y) → ((nameS (List.getD l j (Inhabited.default))) = Bool.true)))) ∧ (viewAll kp [z11, (Prod.mk (6 : Nat) (D.v (Value.int IntKind.i64 z10))), (Prod.mk (7 : Nat) (D.v (Value.int IntKind.i64 (IntKind.wrap IntKind.i64 (z6 + (1 : Int))))))] z3 [z11, (Prod.mk (6 : Nat) (d_i z10)), (Prod.mk (7 : Nat) (d_i ((y : Nat) : Int)))] z3)))))))))))))) ((∃ (r : Unit), (∃ (kp : z7), (z14 ∧ ((z5 = z5) ∧ (viewAll kp z8 z3 (Prod.fst (Prod.snd ((fun (x_1 : Unit) => z1) r))) (Prod.snd (Prod.snd ((fun (x_1 : Unit) => z1) r)))))))) ∨ (∃ (r : Unit), (∃ (kp : z7), (z13 ∧ ((z5 = Exit.ret) ∧ (viewAll kp z8 z3 (Prod.fst (Prod.snd ((fun (x_1 : Unit) => z0) r))) (Prod.snd (Prod.snd ((fun (x_1 : Unit) => z0) r)))))))))))) (by kernel_rfl) ?_
  obtain ⟨hm, hs⟩ := hpre
  obtain ⟨hx, hall⟩ := hJ
  simp only [true_and, and_true, and_self, IsInt_lit, IsBool_lit, IsStr_lit, IsSl_lit, cellN_lit, cellL_lit, Bool.not_eq_true', Bool.not_eq_false', Bool.not_true, Bool.not_false, Int.reduceLE, Int.reduceLT, Int.reduceNeg, Nat.le_refl, Int.le_refl, Nat.reduceLT, Nat.reduceLeDiff, Nat.reduceEqDiff, D.v.injEq, D.tup.injEq, D.agg.injEq, D.ro.injEq, List.cons.injEq, Value.int.injEq, Value.bool.injEq, pcond_true, pcond_false, NamelessL, Nameless, Nat.reduceMul, Nat.reduceAdd, Nat.zero_add, Int.toNat_natCast]
  refine pcond_intro (fun h => ?_) (fun h => .inl ⟨(), [], ?_, ⟨rfl, rfl, trivial⟩⟩)
  · simp only [decide_eq_true_eq] at h
    have hxa : x < l.length := by omega
    have ga := busesD_get l x hxa
    have ha := busesD_length l
    have hsz := hs _ (getD_mem hxa)
    simp only [Nat.mul_one, ga, cellStr_lit, IsStr_lit, wrap_succ hxa (show l.length ≤ 9223372036854775807 from hm), true_and, and_true]
    refine ⟨⟨by omega, by omega⟩, by omega, hsz, pcond_intro (fun h1 => .inr ⟨(), [], allNm_not hxa (by rw [Bool.not_eq_true'] at h1; exact h1), ⟨rfl, rfl, ⟨trivial, rfl⟩, trivial⟩⟩) (fun h1 => ⟨x + 1, [], by omega, ⟨by omega, fun j hj => ?_⟩, ⟨rfl, rfl, ⟨trivial, rfl⟩, ⟨trivial, rfl⟩, ⟨trivial, rfl⟩, trivial⟩⟩)⟩
    rcases Nat.lt_or_ge j x with h2 | h2
    · exact hall j h2
    · rw [show j = x by omega]; rw [Bool.not_eq_false'] at h1; exact h1
  · simp only [decide_eq_false_iff_not] at h
    exact allNm_of fun j hj => hall j (by omega)
theorem p7all_pure (l : List ByteArray) (hpre : l.length ≤ maxLen ∧ ∀ x ∈ l, x.size ≤ maxLen) : PureJ Tryz.prog 159 [.ro l.length (busesD l)] (.v (.bool (allNm l))) := by
  refine pureJ_of_vcp (call := noCalls) (lp := fun reg__ => bif Nat.beq reg__ 2 then some (lp_allL l) else none) (N := 10) T_ok mixed noCalls_ok Tryz.func159 rfl (by decide) (by kernel_rfl) (by kernel_rfl) (of_eq (B := LRuleP Tryz.prog Tryz.f159.ntmps (loopAt ((Tryz.f159.body).getD .skip) 2) (lp_allL l) ∧ True) (by kernel_rfl) ⟨allL_rule l hpre, trivial⟩) (by first | exact ⟨busesD_nl l, trivial⟩ | trivial) (by first | exact ⟨busesD_nl l, trivial⟩ | trivial) ?_
  refine of_eq (B := letI z1 := List.length l; letI z0 := (D.v (Value.int IntKind.i64 ((z1 : Nat) : Int))); letI z2 := (D.v (Value.int IntKind.i64 (0 : Int))); letI z3 := (D.v (Value.bool (allNm l))); letI z4 := ([] : List (Option Blk)); letI z5 := (D.ro z1 (busesD l)); (True ∧ (True ∧ (True ∧ (True ∧ ((((0 : Nat) ≤ z1) ∧ (∀ (j : Nat), ((j < (0 : Nat)) → ((nameS (List.getD l j (Inhabited.default))) = Bool.true)))) ∧ (((Bool.true = Bool.true) ∧ ((z4 = z4) ∧ ((True ∧ (z5 = z5)) ∧ ((True ∧ (z0 = z0)) ∧ ((True ∧ (z2 = z2)) ∧ True))))) ∧ ((Unit → (((allNm l) = Bool.true) → (True ∧ (True ∧ (True ∧ ((D.v (Value.bool Bool.true)) = z3)))))) ∧ (Unit → (((allNm l) = Bool.false) → (True ∧ (True ∧ ((D.v (Value.bool Bool.false)) = z3))))))))))))) (by kernel_rfl) ?_
  simp only [true_and, and_true, and_self, IsInt_lit, IsBool_lit, IsStr_lit, IsSl_lit, cellN_lit, cellL_lit, Bool.not_eq_true', Bool.not_eq_false', Bool.not_true, Bool.not_false, Int.reduceLE, Int.reduceLT, Int.reduceNeg, Nat.le_refl, Int.le_refl, Nat.reduceLT, Nat.reduceLeDiff, Nat.reduceEqDiff, D.v.injEq, D.tup.injEq, D.agg.injEq, D.ro.injEq, List.cons.injEq, Value.int.injEq, Value.bool.injEq, pcond_true, pcond_false, NamelessL, Nameless, Nat.reduceMul, Nat.reduceAdd, Nat.zero_add, Int.toNat_natCast]
  exact ⟨⟨Nat.zero_le _, fun j h => absurd h (Nat.not_lt_zero _)⟩, fun _ h => h.symm, fun _ h => h.symm⟩
def ent_p7all : Ent := fun ds => match ds with
  | [.ro n xs] => some (.v (.bool (allNm (unBus xs))), BusOk n xs ∧ ∀ x ∈ unBus xs, x.size ≤ maxLen)
  | _ => none
theorem ent_p7all_ok : EntOk Tryz.prog 159 ent_p7all := by
  intro ds d c hd hc; unfold ent_p7all at hd; split at hd
  · rename_i n xs
    obtain ⟨rfl, rfl⟩ := pair_inj hd
    obtain ⟨⟨⟨h1, h2⟩, h3⟩, h4⟩ := hc
    generalize unBus xs = a at *
    subst h1; subst h2
    exact p7all_pure a ⟨h3, h4⟩
  · cases hd
theorem rsv_of {s w : ByteArray} (hw : w ∈ rsvL) (h : (s.toList == w.data.toList) = true) : rsvB s = true := by
  unfold rsvB; rw [hasN_any, List.any_eq_true]
  exact ⟨w, hw, by rw [sE_comm]; unfold sE; rw [ByteArray.toList_eq w]; exact h⟩
theorem rsv_no {s : ByteArray} (h : ∀ w ∈ rsvL, (s.toList == w.data.toList) = false) : rsvB s = false := by
  unfold rsvB; rw [hasN_any, List.any_eq_false]
  intro w hw; rw [sE_comm]; unfold sE; rw [ByteArray.toList_eq w, h w hw]; simp
theorem p7rsv_pure (s : ByteArray) : PureJ Tryz.prog 156 [.v (.string s)] (.v (.bool (rsvB s))) := by
  refine pureJ_of_vcx (call := noCalls) (lp := fun _ => none) (N := 20) T_ok mixed noCalls_ok Tryz.func156 rfl (by decide) (by kernel_rfl) (by kernel_rfl) (LpAll.none _) (by first | trivial | (simp only [NamelessL, Nameless, and_self, and_true, true_and]; done) | (simp [NamelessL, Nameless, u32s_nameless, namelessL_ints]; done)) (by first | trivial | (simp only [NamelessL, Nameless, and_self, and_true, true_and]; done) | (simp [NamelessL, Nameless, u32s_nameless, namelessL_ints]; done)) ?_
  refine of_eq (B := letI z0 := (BitVec.ofNat._proof_1 (8 : Nat)); letI z24 := (D.v (Value.bool (rsvB s))); letI z1 := (True ∧ (True ∧ (True ∧ ((D.v (Value.bool Bool.false)) = z24)))); letI z2 := (True ∧ (True ∧ (True ∧ ((D.v (Value.bool Bool.true)) = z24)))); letI z3 := (UInt8.ofBitVec (BitVec.ofFin (Fin.mk (97 : Nat) (Nat.mod_lt 97 z0)))); letI z4 := (UInt8.ofBitVec (BitVec.ofFin (Fin.mk (108 : Nat) (Nat.mod_lt 108 z0)))); letI z5 := (UInt8.ofBitVec (BitVec.ofFin (Fin.mk (111 : Nat) (Nat.mod_lt 111 z0)))); letI z6 := ByteArray.toList s; letI z7 := (UInt8.ofBitVec (BitVec.ofFin (Fin.mk (114 : Nat) (Nat.mod_lt 114 z0)))); letI z8 := (UInt8.ofBitVec (BitVec.ofFin (Fin.mk (101 : Nat) (Nat.mod_lt 101 z0)))); letI z9 := (UInt8.ofBitVec (BitVec.ofFin (Fin.mk (116 : Nat) (Nat.mod_lt 116 z0)))); letI z10 := (UInt8.ofBitVec (BitVec.ofFin (Fin.mk (110 : Nat) (Nat.mod_lt 110 z0)))); letI z11 := (UInt8.ofBitVec (BitVec.ofFin (Fin.mk (102 : Nat) (Nat.mod_lt 102 z0)))); letI z12 := (UInt8.ofBitVec (BitVec.ofFin (Fin.mk (115 : Nat) (Nat.mod_lt 115 z0)))); letI z13 := (UInt8.ofBitVec (BitVec.ofFin (Fin.mk (100 : Nat) (Nat.mod_lt 100 z0)))); letI z14 := (UInt8.ofBitVec (BitVec.ofFin (Fin.mk (105 : Nat) (Nat.mod_lt 105 z0)))); letI z15 := (UInt8.ofBitVec (BitVec.ofFin (Fin.mk (120 : Nat) (Nat.mod_lt 120 z0)))); letI z16 := (UInt8.ofBitVec (BitVec.ofFin (Fin.mk (109 : Nat) (Nat.mod_lt 109 z0)))); letI z17 := (UInt8.ofBitVec (BitVec.ofFin (Fin.mk (104 : Nat) (Nat.mod_lt 104 z0)))); letI z18 := (UInt8.ofBitVec (BitVec.ofFin (Fin.mk (117 : Nat) (Nat.mod_lt 117 z0)))); letI z19 := (UInt8.ofBitVec (BitVec.ofFin (Fin.mk (99 : Nat) (Nat.mod_lt 99 z0)))); letI z20 := (z6 == [z13, z8, z4, z3, (UInt8.ofBitVec (BitVec.ofFin (Fin.mk (121 : Nat) (Nat.mod_lt 121 z0))))]); letI z21 := (z6 == [z3, (UInt8.ofBitVec (BitVec.ofFin (Fin.mk (98 : Nat) (Nat.mod_lt 98 z0)))), z12]); letI z22 := z6 == [z11, z3, z4, z12, z8]; letI z23 := z6 == [z4, z3, z9, z19, z17]; letI z25 := z6 == [z7, z14, z12, z8]; letI z26 := z6 == [z17, z5, z4, z13]; letI z27 := z6 == [z9, z7, z18, z8]; letI z28 := z6 == [z11, z3, z4, z4]; letI z29 := z6 == [z16, z14, z10]; letI z30 := z6 == [z3, z10, z13]; letI z31 := z6 == [z16, z3, z15]; letI z32 := z6 == [z10, z5, z9]; letI z33 := z6 == [z15, z5, z7]; (True ∧ (True ∧ (True ∧ (True ∧ (pcond z27 (pcond z27 z2 z1) (True ∧ (True ∧ (pcond z22 (pcond z22 z2 z1) (True ∧ (True ∧ (pcond z32 (pcond z32 z2 z1) (True ∧ (True ∧ (pcond z30 (pcond z30 z2 z1) (True ∧ (True ∧ (pcond (z6 == [z5, z7]) (pcond (z6 == [z5, z7]) z2 z1) (True ∧ (True ∧ (pcond z33 (pcond z33 z2 z1) (True ∧ (True ∧ (pcond z29 (pcond z29 z2 z1) (True ∧ (True ∧ (pcond z31 (pcond z31 z2 z1) (True ∧ (True ∧ (pcond z21 (pcond z21 z2 z1) (True ∧ (True ∧ (pcond (z6 == [z14, z11]) (pcond (z6 == [z14, z11]) z2 z1) (True ∧ (True ∧ (pcond z25 (pcond z25 z2 z1) (True ∧ (True ∧ (pcond z28 (pcond z28 z2 z1) (True ∧ (True ∧ (pcond z20 (pcond z20 z2 z1) (True ∧ (True ∧ (pcond z26 (pcond z26 z2 z1) (True ∧ (True ∧ (pcond z23 (pcond z23 z2 z1) (True ∧ (True ∧ (pcond (z6 == [z19, z5, z18, z10, z9]) z2 z1))))))))))))))))))))))))))))))))))))))))))))))))))) (by kernel_rfl) ?_
  simp only [true_and, and_true, and_self, IsInt_lit, IsBool_lit, IsStr_lit, IsSl_lit, cellN_lit, cellL_lit, Bool.not_eq_true', Bool.not_eq_false', Bool.not_true, Bool.not_false, Int.reduceLE, Int.reduceLT, Int.reduceNeg, Nat.le_refl, Int.le_refl, Nat.reduceLT, Nat.reduceLeDiff, Nat.reduceEqDiff, D.v.injEq, D.tup.injEq, D.agg.injEq, D.ro.injEq, List.cons.injEq, Value.int.injEq, Value.bool.injEq, pcond_true, pcond_false, NamelessL, Nameless, Nat.reduceMul, Nat.reduceAdd, Nat.zero_add, Int.toNat_natCast]
  exact pcond_intro (fun h1 => pcond_intro (fun _ => (rsv_of (w := ⟨#[116, 114, 117, 101]⟩) (by simp [rsvL]) h1).symm) (fun g => nomatch h1.symm.trans g)) (fun h1 => pcond_intro (fun h2 => pcond_intro (fun _ => (rsv_of (w := ⟨#[102, 97, 108, 115, 101]⟩) (by simp [rsvL]) h2).symm) (fun g => nomatch h2.symm.trans g)) (fun h2 => pcond_intro (fun h3 => pcond_intro (fun _ => (rsv_of (w := ⟨#[110, 111, 116]⟩) (by simp [rsvL]) h3).symm) (fun g => nomatch h3.symm.trans g)) (fun h3 => pcond_intro (fun h4 => pcond_intro (fun _ => (rsv_of (w := ⟨#[97, 110, 100]⟩) (by simp [rsvL]) h4).symm) (fun g => nomatch h4.symm.trans g)) (fun h4 => pcond_intro (fun h5 => pcond_intro (fun _ => (rsv_of (w := ⟨#[111, 114]⟩) (by simp [rsvL]) h5).symm) (fun g => nomatch h5.symm.trans g)) (fun h5 => pcond_intro (fun h6 => pcond_intro (fun _ => (rsv_of (w := ⟨#[120, 111, 114]⟩) (by simp [rsvL]) h6).symm) (fun g => nomatch h6.symm.trans g)) (fun h6 => pcond_intro (fun h7 => pcond_intro (fun _ => (rsv_of (w := ⟨#[109, 105, 110]⟩) (by simp [rsvL]) h7).symm) (fun g => nomatch h7.symm.trans g)) (fun h7 => pcond_intro (fun h8 => pcond_intro (fun _ => (rsv_of (w := ⟨#[109, 97, 120]⟩) (by simp [rsvL]) h8).symm) (fun g => nomatch h8.symm.trans g)) (fun h8 => pcond_intro (fun h9 => pcond_intro (fun _ => (rsv_of (w := ⟨#[97, 98, 115]⟩) (by simp [rsvL]) h9).symm) (fun g => nomatch h9.symm.trans g)) (fun h9 => pcond_intro (fun h10 => pcond_intro (fun _ => (rsv_of (w := ⟨#[105, 102]⟩) (by simp [rsvL]) h10).symm) (fun g => nomatch h10.symm.trans g)) (fun h10 => pcond_intro (fun h11 => pcond_intro (fun _ => (rsv_of (w := ⟨#[114, 105, 115, 101]⟩) (by simp [rsvL]) h11).symm) (fun g => nomatch h11.symm.trans g)) (fun h11 => pcond_intro (fun h12 => pcond_intro (fun _ => (rsv_of (w := ⟨#[102, 97, 108, 108]⟩) (by simp [rsvL]) h12).symm) (fun g => nomatch h12.symm.trans g)) (fun h12 => pcond_intro (fun h13 => pcond_intro (fun _ => (rsv_of (w := ⟨#[100, 101, 108, 97, 121]⟩) (by simp [rsvL]) h13).symm) (fun g => nomatch h13.symm.trans g)) (fun h13 => pcond_intro (fun h14 => pcond_intro (fun _ => (rsv_of (w := ⟨#[104, 111, 108, 100]⟩) (by simp [rsvL]) h14).symm) (fun g => nomatch h14.symm.trans g)) (fun h14 => pcond_intro (fun h15 => pcond_intro (fun _ => (rsv_of (w := ⟨#[108, 97, 116, 99, 104]⟩) (by simp [rsvL]) h15).symm) (fun g => nomatch h15.symm.trans g)) (fun h15 => pcond_intro (fun h16 => (rsv_of (w := ⟨#[99, 111, 117, 110, 116]⟩) (by simp [rsvL]) h16).symm) (fun h16 => (rsv_no (by simp only [rsvL, List.forall_mem_cons]; exact ⟨h1, h2, h3, h4, h5, h6, h7, h8, h9, h10, h11, h12, h13, h14, h15, h16, fun _ h => nomatch h⟩)).symm))))))))))))))))
def ent_p7rsv : Ent := fun ds => match ds with
  | [.v (.string s)] => some (.v (.bool (rsvB s)), True)
  | _ => none
theorem ent_p7rsv_ok : EntOk Tryz.prog 156 ent_p7rsv := by
  intro ds d c h hc; unfold ent_p7rsv at h; split at h
  · obtain ⟨rfl, rfl⟩ := pair_inj h; exact p7rsv_pure _
  · cases h
end Go.Proofs.YtfleadelfklenaaGreatDoor
end
section
namespace Go.Proofs.YtfleadelfklenaaGreatDoor
open Go.VD
set_option linter.unusedVariables false
set_option linter.unusedSimpArgs false
set_option maxRecDepth 100000
theorem frame1 {P : Program} {f : FuncId} {plain : List D} {d : D} {cs cs' : List D} (hj : CallJ P f (.ifc itTy (.ptr 0 0) :: plain) [some ⟨itTy, cs, true⟩] d [some ⟨itTy, cs', true⟩]) (hp : NamelessL plain) (hd : Nameless d) (hc : NamelessL cs) (hc' : NamelessL cs')
    {H1 : Heap} {m : Nat} (hm : H1[m]? = some (some ⟨itTy, cs, true⟩)) : CallJ P f (.ifc itTy (.ptr m 0) :: plain) H1 d (H1.set m (some ⟨itTy, cs', true⟩)) := by
  have hlt := (List.getElem?_eq_some_iff.1 hm).1
  have g0 : gOf [m] H1.length 0 = m := by simp [gOf]
  have key := hj.frames (σ := [m]) (B := H1) rfl (by simp) (by simp [hlt]) (fun i blk hi => by
    match i, hi with
    | 0, hi =>
      simp only [List.getElem?_cons_zero, Option.some.injEq] at hi; subst hi
      exact ⟨m, rfl, by rw [hm]; simp only [rnB, rnL_nl _ _ hc], by rw [namesL_nl _ hc]; simp⟩
    | i + 1, hi => simp at hi) (by rw [show namesD.namesA (D.ifc itTy (.ptr 0 0) :: plain) = [0] ++ namesD.namesA plain from rfl, namesL_nl _ hp]; simp)
  rw [rnD_nl _ _ hd] at key
  simp only [rnL, rnD, g0, rnL_nl _ _ hp, frH, setAt, List.length_cons, List.length_nil, List.map_cons, List.map_nil, Option.map_some, rnB, rnL_nl _ _ hc', List.drop_succ_cons, List.drop_zero, List.append_nil] at key
  exact key
def chkC (n : Nat) (xb : List D) (m1 m2 : Nat) : List D := [.ro n xb, .ifc itTy (.ptr m1 0), .ifc itTy (.ptr m2 0)]
theorem frame2 {P : Program} {f : FuncId} {n : Nat} {xb plain : List D} {d : D} {c1 c2 c1' c2' : List D}
    (hj : CallJ P f (.agg (chkC n xb 0 1) :: plain) [some ⟨itTy, c1, true⟩, some ⟨itTy, c2, true⟩] d [some ⟨itTy, c1', true⟩, some ⟨itTy, c2', true⟩]) (hx : NamelessL xb) (hp : NamelessL plain) (hd : Nameless d) (h1 : NamelessL c1) (h2 : NamelessL c2) (h1' : NamelessL c1') (h2' : NamelessL c2')
    {H1 : Heap} {m1 m2 : Nat} (hne : m1 ≠ m2) (hm1 : H1[m1]? = some (some ⟨itTy, c1, true⟩)) (hm2 : H1[m2]? = some (some ⟨itTy, c2, true⟩)) :
    CallJ P f (.agg (chkC n xb m1 m2) :: plain) H1 d ((H1.set m1 (some ⟨itTy, c1', true⟩)).set m2 (some ⟨itTy, c2', true⟩)) := by
  have hl1 := (List.getElem?_eq_some_iff.1 hm1).1
  have hl2 := (List.getElem?_eq_some_iff.1 hm2).1
  have g0 : gOf [m1, m2] H1.length 0 = m1 := by simp [gOf]
  have g1 : gOf [m1, m2] H1.length 1 = m2 := by simp [gOf]
  have key := hj.frames (σ := [m1, m2]) (B := H1) rfl (by simp [hne]) (by simp [hl1, hl2]) (fun i blk hi => by
    match i, hi with
    | 0, hi =>
      simp only [List.getElem?_cons_zero, Option.some.injEq] at hi; subst hi
      exact ⟨m1, rfl, by rw [hm1]; simp only [rnB, rnL_nl _ _ h1], by rw [namesL_nl _ h1]; simp⟩
    | 1, hi =>
      simp only [List.getElem?_cons_succ, List.getElem?_cons_zero, Option.some.injEq] at hi; subst hi
      exact ⟨m2, rfl, by rw [hm2]; simp only [rnB, rnL_nl _ _ h2], by rw [namesL_nl _ h2]; simp⟩
    | i + 2, hi => simp at hi) (by
      rw [show namesD.namesA (D.agg (chkC n xb 0 1) :: plain) = [0, 1] ++ namesD.namesA plain by simp [namesD.namesA, namesD, chkC], namesL_nl _ hp]; simp)
  rw [rnD_nl _ _ hd] at key
  simp only [chkC, rnL, rnD, g0, g1, rnL_nl _ _ hp, rnL_nl _ _ hx, frH, setAt, List.length_cons, List.length_nil, List.map_cons, List.map_nil, Option.map_some, rnB, rnL_nl _ _ h1', rnL_nl _ _ h2', List.drop_succ_cons, List.drop_zero, List.append_nil] at key
  exact key
def unNm : List D → List ByteArray
  | .v (.string s) :: .v (.bool _) :: r => s :: unNm r
  | _ => []
theorem unNm_C : ∀ l : List ByteArray, unNm (nmC l) = l
  | [] => rfl
  | x :: r => by rw [show nmC (x :: r) = nmE x ++ nmC r by simp [nmC]]; simp only [nmE, List.cons_append, List.nil_append, unNm, unNm_C r]
def unTk : List D → List Int
  | .v (.int _ n) :: .v (.bool _) :: r => n :: unTk r
  | _ => []
theorem unTk_C : ∀ l : List Int, unTk (tkC l) = l
  | [] => rfl
  | x :: r => by rw [show tkC (x :: r) = tkE x ++ tkC r by simp [tkC]]; simp only [tkE, List.cons_append, List.nil_append, unTk, unTk_C r]
def NmOk (cm : List D) : Prop := cm = nmM (unNm (cm.drop 6))
def TkOk (cm : List D) : Prop := cm = tkM (unTk (cm.drop 6))
theorem NmOk_lit (l : List ByteArray) : NmOk (.v (.map none) :: .v (.bool false) :: .v (.bool false) :: .v (.int .i64 1) :: .v (.int .i64 1) :: .v (.string ⟨⟨[]⟩⟩) :: nmC l) = True := by
  unfold NmOk; rw [show List.drop 6 (D.v (.map none) :: .v (.bool false) :: .v (.bool false) :: .v (.int .i64 1) :: .v (.int .i64 1) :: .v (.string ⟨⟨[]⟩⟩) :: nmC l) = nmC l from rfl, unNm_C]
  exact eq_true rfl
theorem TkOk_lit (l : List Int) : TkOk (.v (.map none) :: .v (.bool false) :: .v (.bool false) :: .v (.int .i64 1) :: .v (.int .i64 1) :: .v (.int .i64 0) :: tkC l) = True := by
  unfold TkOk; rw [show List.drop 6 (D.v (.map none) :: .v (.bool false) :: .v (.bool false) :: .v (.int .i64 1) :: .v (.int .i64 1) :: .v (.int .i64 0) :: tkC l) = tkC l from rfl, unTk_C]
  exact eq_true rfl
def entf_enterS : EntF := fun ds H => match ds with
  | [.ifc t (.ptr m 0), .v (.string s)] => match blkRaw H m with
    | some ⟨tm, cm, true⟩ => some (.v (.bool (!hasN (unNm (cm.drop 6)) s)), [(m, d_nm (putN (unNm (cm.drop 6)) s))], [], [], (t = itTy ∧ tm = itTy) ∧ NmOk cm)
    | _ => none
  | _ => none
theorem entf_enterS_ok : EntFOk Tryz.prog 145 entf_enterS := by
  intro ds H d ups rs L p hd hc H1 heq hl; unfold entf_enterS at hd; split at hd
  · rename_i t m s
    split at hd
    · rename_i tm cm hm
      injection hd with hd
      simp only [Prod.mk.injEq] at hd
      obtain ⟨rfl, rfl, rfl, rfl, rfl⟩ := hd
      obtain ⟨⟨rfl, rfl⟩, he⟩ := hc
      have he : cm = nmM (unNm (cm.drop 6)) := he
      generalize unNm (cm.drop 6) = l at *
      subst he
      have hm := blkRaw_some hm
      rw [← heq m (.inr (by simp))] at hm
      have key := frame1 (enterS_call l s) (by simp [NamelessL, Nameless]) trivial (nmM_nl l) (nmM_nl (putN l s)) hm
      simp only [setU, List.append_nil]
      exact key
    · cases hd
  · cases hd
def entf_enterI : EntF := fun ds H => match ds with
  | [.ifc t (.ptr m 0), .v (.int .i64 n)] => match blkRaw H m with
    | some ⟨tm, cm, true⟩ => some (.v (.bool (!hasI (unTk (cm.drop 6)) n)), [(m, d_tk (putI (unTk (cm.drop 6)) n))], [], [], (t = itTy ∧ tm = itTy) ∧ TkOk cm)
    | _ => none
  | _ => none
theorem entf_enterI_ok : EntFOk Tryz.prog 147 entf_enterI := by
  intro ds H d ups rs L p hd hc H1 heq hl; unfold entf_enterI at hd; split at hd
  · rename_i t m s
    split at hd
    · rename_i tm cm hm
      injection hd with hd
      simp only [Prod.mk.injEq] at hd
      obtain ⟨rfl, rfl, rfl, rfl, rfl⟩ := hd
      obtain ⟨⟨rfl, rfl⟩, he⟩ := hc
      have he : cm = tkM (unTk (cm.drop 6)) := he
      generalize unTk (cm.drop 6) = l at *
      subst he
      have hm := blkRaw_some hm
      rw [← heq m (.inr (by simp))] at hm
      have key := frame1 (enterI_call l s) (by simp [NamelessL, Nameless]) trivial (tkM_nl l) (tkM_nl (putI l s)) hm
      simp only [setU, List.append_nil]
      exact key
    · cases hd
  · cases hd
def entf_two (g : Nat → List D → List ByteArray → List Int → List D → Option (D × List ByteArray × List Int × Prop)) : EntF := fun ds H => match ds with
  | .agg [.ro n xb, .ifc t1 (.ptr m1 0), .ifc t2 (.ptr m2 0)] :: plain => match blkRaw H m1, blkRaw H m2 with
    | some ⟨y1, c1, true⟩, some ⟨y2, c2, true⟩ => match g n xb (unNm (c1.drop 6)) (unTk (c2.drop 6)) plain with
      | some (d, l', k', p) => some (d, [(m1, d_nm l'), (m2, d_tk k')], [], [], ((t1 = itTy ∧ t2 = itTy) ∧ (y1 = itTy ∧ y2 = itTy) ∧ Nat.beq m1 m2 = false) ∧ (NmOk c1 ∧ TkOk c2) ∧ p)
      | none => none
    | _, _ => none
  | _ => none
theorem entf_two_ok {P : Program} {f : FuncId} {g : Nat → List D → List ByteArray → List Int → List D → Option (D × List ByteArray × List Int × Prop)}
    (hg : ∀ n xb l k plain d l' k' p, g n xb l k plain = some (d, l', k', p) → p → CallJ P f (.agg (chkC n xb 0 1) :: plain) [d_nm l, d_tk k] d [d_nm l', d_tk k'] ∧ NamelessL xb ∧ NamelessL plain ∧ Nameless d) : EntFOk P f (entf_two g) := by
  intro ds H d ups rs L p hd hc H1 heq hl; unfold entf_two at hd; split at hd
  · rename_i n xb t1 m1 t2 m2 plain
    split at hd
    · rename_i y1 c1 y2 c2 hm1 hm2
      split at hd
      · rename_i d0 l' k' p0 hgg
        injection hd with hd
        simp only [Prod.mk.injEq] at hd
        obtain ⟨rfl, rfl, rfl, rfl, rfl⟩ := hd
        obtain ⟨⟨⟨rfl, rfl⟩, ⟨rfl, rfl⟩, hne⟩, ⟨he1, he2⟩, hp⟩ := hc
        obtain ⟨hj, n1, n2, n3⟩ := hg _ _ _ _ _ _ _ _ _ hgg hp
        have he1 : c1 = nmM (unNm (c1.drop 6)) := he1
        have he2 : c2 = tkM (unTk (c2.drop 6)) := he2
        generalize unNm (c1.drop 6) = l at *
        generalize unTk (c2.drop 6) = k at *
        subst he1; subst he2
        have hm1 := blkRaw_some hm1
        have hm2 := blkRaw_some hm2
        rw [← heq m1 (.inr (by simp))] at hm1
        rw [← heq m2 (.inr (by simp))] at hm2
        have hne : m1 ≠ m2 := fun e => by rw [e] at hne; simp at hne
        have key := frame2 hj n1 n2 n3 (nmM_nl l) (tkM_nl k) (nmM_nl l') (tkM_nl k') hne hm1 hm2
        simp only [setU, List.append_nil]
        exact key
      · cases hd
    · cases hd
  · cases hd
end Go.Proofs.YtfleadelfklenaaGreatDoor
end
