/- The program's integers: what the results of any two integers rest on. -/
import Derived.Test.YthnhfkpihbjddaaIc
namespace Go.Proofs.Ythnhfkpihbjddaa
open Go.VD
set_option linter.unusedVariables false
set_option linter.unusedSimpArgs false
set_option maxRecDepth 100000

theorem PureJ.ro0 {P : Program} {f : FuncId} {ys : List D} {d : D} (hn : NamelessL ys) (h : ∀ A c, PureJ P f [.v (.slice A 0 c)] d) : PureJ P f [.ro 0 ys] d := by
  refine ⟨(h none 0).callable, by simp [NamelessL, Nameless, hn], (h none 0).res, fun S w vals hs hG hv => ?_⟩
  simp only [RdT, Rd] at hv
  obtain ⟨u, r, rfl, ⟨_, A, c, rfl, _⟩, rfl⟩ := hv
  exact (h A c).call S w _ hs hG (by simp [RdT, Rd])
theorem iclone0_pure (A : Option Addr) (c : Nat) : PureJ Try.prog 87 [.v (.slice A 0 c)] (.ro 0 []) := by
  refine pureJ_of_vcpN (call := noCalls) (lp := fun _ => none) (N := 10) T_ok mixed noCalls_ok Try.func87 rfl (by decide) (by kernel_rfl) (by kernel_rfl) (LpAllP.none _) (by first | trivial | (simp only [NamelessL, Nameless, and_self, and_true, true_and]; done) | (simp [NamelessL, Nameless, u32s_nameless, namelessL_ints]; done)) (by first | trivial | (simp only [NamelessL, Nameless, and_self, and_true, true_and]; done) | (simp [NamelessL, Nameless, u32s_nameless, namelessL_ints]; done)) ?_
  refine of_eq (B := (True ∧ (True ∧ (True ∧ (pcond (Option.isSome.match_1 (fun (x : (Option Addr)) => Bool) A (fun (val : Addr) => Bool.false) (fun (_ : Unit) => Bool.true)) (True ∧ (True ∧ (True ∧ ((D.ro (0 : Nat) ([] : List D)) = (D.ro (0 : Nat) ([] : List D)))))) ((((0 : Nat) ≤ (16777216 : Nat)) ∧ ((0 : Nat) ≤ (9223372036854775807 : Nat))) ∧ (True ∧ ((True ∧ (((22 : Nat) = (22 : Nat)) ∧ (((1 : Nat) = (1 : Nat)) ∧ (((41 : Nat) = (41 : Nat)) ∧ (((0 : Nat) ≤ (0 : Nat)) ∧ (((0 : Nat) < (1 : Nat)) ∧ (((0 : Nat) ≤ (9223372036854775807 : Nat)) ∧ ((0 : Nat) ≤ (140737488355328 : Nat))))))))) ∧ (True ∧ (True ∧ (((NamelessL ([] : List D)) ∧ (((0 : Nat) < (1 : Nat)) ∧ ((0 : Nat) ≤ (0 : Nat)))) ∧ ((D.ro (0 : Nat) ([] : List D)) = (D.ro (0 : Nat) ([] : List D)))))))))))))) (by kernel_rfl) ?_
  simp only [true_and, and_true, and_self, IsInt_lit, IsBool_lit, IsStr_lit, Bool.not_eq_true', Bool.not_eq_false', Bool.not_true, Bool.not_false, Int.reduceLE, Int.reduceLT, Int.reduceNeg, Nat.le_refl, Int.le_refl, Nat.reduceLT, Nat.reduceLeDiff, Nat.reduceEqDiff, D.v.injEq, D.tup.injEq, D.agg.injEq, D.ro.injEq, List.cons.injEq, Value.int.injEq, Value.bool.injEq, pcond_true, pcond_false, NamelessL, Nameless, Nat.reduceMul, Nat.reduceAdd, Nat.zero_add, Int.toNat_natCast]
  exact pcond_intro (fun _ => trivial) (fun _ => trivial)
def ent_iclone0 : Ent := fun ds => match ds with
  | [.v (.slice A 0 c)] => some (.ro 0 [], True)
  | _ => none
theorem ent_iclone0_ok : EntOk Try.prog 87 ent_iclone0 := by
  intro ds d c h hc; unfold ent_iclone0 at h; split at h
  · obtain ⟨rfl, rfl⟩ := pair_inj h; exact iclone0_pure _ _
  · cases h
theorem iclone1_pure (xs : List Nat) (hpre : 0 < xs.length ∧ xs.length ≤ 1000000) : PureJ Try.prog 87 [.ro xs.length (u32s xs)] (.ro xs.length (u32s xs)) := by
  refine pureJ_of_vcx (call := noCalls) (lp := fun _ => none) (N := 10) T_ok mixed noCalls_ok Try.func87 rfl (by decide) (by kernel_rfl) (by kernel_rfl) (LpAll.none _) (by first | trivial | (simp only [NamelessL, Nameless, and_self, and_true, true_and]; done) | (simp [NamelessL, Nameless, u32s_nameless, namelessL_ints]; done)) (by first | trivial | (simp only [NamelessL, Nameless, and_self, and_true, true_and]; done) | (simp [NamelessL, Nameless, u32s_nameless, namelessL_ints]; done)) ?_
  refine of_eq (B := (True ∧ (True ∧ (((0 : Nat) < (List.length xs)) ∧ ((((0 : Nat) ≤ (16777216 : Nat)) ∧ ((0 : Nat) ≤ (9223372036854775807 : Nat))) ∧ (True ∧ (((((List.length xs) * (1 : Nat)) ≤ (List.length (u32s xs))) ∧ (((22 : Nat) = (22 : Nat)) ∧ (((1 : Nat) = (1 : Nat)) ∧ (((41 : Nat) = (41 : Nat)) ∧ (((0 : Nat) ≤ (0 : Nat)) ∧ (((0 : Nat) < (1 : Nat)) ∧ ((((0 : Nat) + (List.length xs)) ≤ (9223372036854775807 : Nat)) ∧ ((((0 : Nat) + (List.length xs)) * (4 : Nat)) ≤ (140737488355328 : Nat))))))))) ∧ (True ∧ (True ∧ (((NamelessL (([] : List D) ++ (List.take ((List.length xs) * (1 : Nat)) (u32s xs)))) ∧ (((0 : Nat) < (1 : Nat)) ∧ (((0 : Nat) + (((0 : Nat) + (List.length xs)) * (1 : Nat))) ≤ (List.length (([] : List D) ++ (List.take ((List.length xs) * (1 : Nat)) (u32s xs))))))) ∧ ((D.ro ((0 : Nat) + (List.length xs)) (List.take (((0 : Nat) + (List.length xs)) * (1 : Nat)) (List.drop (0 : Nat) (([] : List D) ++ (List.take ((List.length xs) * (1 : Nat)) (u32s xs)))))) = (D.ro (List.length xs) (u32s xs))))))))))))) (by kernel_rfl) ?_
  simp only [true_and, and_true, and_self, IsInt_lit, IsBool_lit, IsStr_lit, Bool.not_eq_true', Bool.not_eq_false', Bool.not_true, Bool.not_false, Int.reduceLE, Int.reduceLT, Int.reduceNeg, Nat.le_refl, Int.le_refl, Nat.reduceLT, Nat.reduceLeDiff, Nat.reduceEqDiff, D.v.injEq, D.tup.injEq, D.agg.injEq, D.ro.injEq, List.cons.injEq, Value.int.injEq, Value.bool.injEq, pcond_true, pcond_false, NamelessL, Nameless, Nat.reduceMul, Nat.reduceAdd, Nat.zero_add, Int.toNat_natCast, Nat.mul_one, List.nil_append, u32s_length, u32s_take, u32s_nameless, List.take_length, List.drop_zero]
  exact ⟨hpre.1, by omega, by omega⟩
def ent_iclone1 : Ent := fun ds => match ds with
  | [.ro n_xs ys_xs] => some (.ro (unu ys_xs).length (u32s (unu ys_xs)), (ys_xs = u32s (unu ys_xs) ∧ n_xs = (unu ys_xs).length) ∧ 0 < (unu ys_xs).length ∧ (unu ys_xs).length ≤ 1000000)
  | _ => none
theorem ent_iclone1_ok : EntOk Try.prog 87 ent_iclone1 := by
  intro ds d c h hc; unfold ent_iclone1 at h; split at h
  · rename_i n_xs ys_xs; obtain ⟨rfl, rfl⟩ := pair_inj h
    obtain ⟨⟨h1, h2⟩, hc⟩ := hc; subst h2; generalize (unu ys_xs) = xs at *; subst h1
    exact iclone1_pure xs hc
  · cases h
theorem iclone_pure (xs : List Nat) (hpre : xs.length ≤ 1000000) : PureJ Try.prog 87 [.ro xs.length (u32s xs)] (.ro xs.length (u32s xs)) := by
  by_cases h : 0 < xs.length
  · exact iclone1_pure xs ⟨h, hpre⟩
  · have : xs = [] := List.eq_nil_of_length_eq_zero (by omega)
    subst this
    exact PureJ.ro0 (u32s_nameless []) fun A c => iclone0_pure A c
def ent_iclone : Ent := fun ds => match ds with
  | [.ro n ys] => some (.ro (unu ys).length (u32s (unu ys)), (ys = u32s (unu ys) ∧ n = (unu ys).length) ∧ (unu ys).length ≤ 1000000)
  | _ => none
theorem ent_iclone_ok : EntOk Try.prog 87 ent_iclone := by
  intro ds d c h hc; unfold ent_iclone at h; split at h
  · rename_i n ys; obtain ⟨rfl, rfl⟩ := pair_inj h
    obtain ⟨⟨h1, h2⟩, hc⟩ := hc; subst h2; generalize unu ys = xs at *; subst h1
    exact iclone_pure xs hc
  · cases h

/-- a result with its sign, digits and error -/
def okS (v : Int) : Bool × List Nat × Int := bif decide ((ofL v).length ≤ 400) then (decide (v < 0), ofL v, 0) else (false, [], 2)
def arS (ok : Bool) (v : Int) : Bool × List Nat × Int := bif ok then okS v else (false, [], 1)
def d_ar (p : Bool × List Nat × Int) : D := .tup [d_int p.1 p.2.1, .v (.int .i64 p.2.2)]
theorem sig_ok {neg : Bool} {xs : List Nat} {v : Int} (hn : madeN neg xs = decide (v < 0)) (ht : trimL xs = ofL v) : sigN neg xs = (okS v).1 ∧ sigL xs = (okS v).2.1 ∧ sigE xs = (okS v).2.2 := by
  unfold sigN sigL sigE sigF okS
  rw [hn, ht]
  by_cases h : (ofL v).length ≤ 400
  · simp [h]
  · simp [h]
theorem valid_good {n : Bool} {xs : List Nat} (hd : Dig xs) (h : validL n xs = true) : Good n xs ∧ xs.length ≤ 400 := by
  unfold validL at h
  by_cases h0 : xs.length = 0
  · have : xs = [] := List.eq_nil_of_length_eq_zero h0
    subst this
    simp at h
    subst h
    exact ⟨good_zero, by simp⟩
  · rw [if_neg h0] at h
    simp only [Bool.and_eq_true, decide_eq_true_eq] at h
    have hc := canon_dg (xs := xs) ⟨hd, .inr h.2⟩
    refine ⟨⟨hc.symm, fun _ hz => ?_⟩, h.1⟩
    rw [hz, dg_zero] at hc
    rw [← hc] at h0
    exact h0 rfl
theorem iv_not {n : Bool} {xs : List Nat} : iv (!n) xs = -iv n xs := by unfold iv; cases n <;> simp
def LenOk (xs : List Nat) : Prop := xs.length ≤ 1000 ∧ Dig xs
/-! ### the specification's -/
def resG (neg : Bool) (xs : List Nat) : Bool × List Nat × Int := bif decide (xs.length ≤ 400) then (neg, xs, 0) else (false, [], 2)
theorem resG_ok {neg : Bool} {xs : List Nat} {v : Int} (hn : madeN neg xs = decide (v < 0)) (ht : trimL xs = ofL v) : resG (madeN neg xs) (trimL xs) = okS v := by
  unfold resG okS; rw [hn, ht]
theorem gresult_pure (neg : Bool) (xs : List Nat) (hpre : xs.length ≤ 1000000) : PureJ Try.prog 59 [.agg [.v (.bool neg), .ro xs.length (u32s xs)]] (d_ar (resG neg xs)) := by
  refine pureJ_of_vcpN (call := noCalls) (lp := fun _ => none) (N := 10) T_ok mixed noCalls_ok Try.func59 rfl (by decide) (by kernel_rfl) (by kernel_rfl) (LpAllP.none _) (by (simp [NamelessL, Nameless, d_ar, d_int, u32s_nameless]; done)) (by (simp [NamelessL, Nameless, d_ar, d_int, u32s_nameless]; done)) ?_
  refine of_eq (B := (True ∧ (True ∧ (True ∧ (True ∧ (((1 : Nat) < (2 : Nat)) ∧ (True ∧ (True ∧ (pcond (Decidable.decide ((400 : Int) < (((List.length xs) : Nat) : Int))) (True ∧ ((((2 : Nat) = (2 : Nat)) ∧ ((2 : Nat) ≤ (2 : Nat))) ∧ (True ∧ ((((2 : Nat) ≤ (2 : Nat)) ∧ True) ∧ (((True ∧ (True ∧ True)) ∧ (True ∧ True)) ∧ ((D.tup [(D.agg [(D.v (Value.bool Bool.false)), (D.ro (0 : Nat) ([] : List D))]), (D.v (Value.int IntKind.i64 (2 : Int)))]) = (D.tup [(D.agg [(D.v (Value.bool (Prod.fst (resG neg xs)))), (D.ro (List.length (Prod.fst (Prod.snd (resG neg xs)))) (u32s (Prod.fst (Prod.snd (resG neg xs)))))]), (D.v (Value.int IntKind.i64 (Prod.snd (Prod.snd (resG neg xs)))))]))))))) (((2 : Nat) ≤ (2 : Nat)) ∧ ((((2 : Nat) = (2 : Nat)) ∧ ((2 : Nat) ≤ (2 : Nat))) ∧ (True ∧ ((((2 : Nat) ≤ (2 : Nat)) ∧ True) ∧ (((True ∧ (True ∧ True)) ∧ (True ∧ True)) ∧ ((D.tup [(D.agg [(D.v (Value.bool neg)), (D.ro (List.length xs) (u32s xs))]), (D.v (Value.int IntKind.i64 (0 : Int)))]) = (D.tup [(D.agg [(D.v (Value.bool (Prod.fst (resG neg xs)))), (D.ro (List.length (Prod.fst (Prod.snd (resG neg xs)))) (u32s (Prod.fst (Prod.snd (resG neg xs)))))]), (D.v (Value.int IntKind.i64 (Prod.snd (Prod.snd (resG neg xs)))))])))))))))))))))) (by kernel_rfl) ?_
  simp only [true_and, and_true, and_self, IsInt_lit, IsBool_lit, IsStr_lit, Bool.not_eq_true', Bool.not_eq_false', Bool.not_true, Bool.not_false, Int.reduceLE, Int.reduceLT, Int.reduceNeg, Nat.le_refl, Int.le_refl, Nat.reduceLT, Nat.reduceLeDiff, Nat.reduceEqDiff, D.v.injEq, D.tup.injEq, D.agg.injEq, D.ro.injEq, List.cons.injEq, Value.int.injEq, Value.bool.injEq, pcond_true, pcond_false, NamelessL, Nameless, Nat.reduceMul, Nat.reduceAdd, Nat.zero_add, Int.toNat_natCast]
  refine pcond_intro (fun h => ?_) (fun h => ?_)
  · simp only [decide_eq_true_eq] at h
    have : ¬ xs.length ≤ 400 := by omega
    simp [resG, this, u32s]
  · simp only [decide_eq_false_iff_not] at h
    have : xs.length ≤ 400 := by omega
    simp [resG, this]
def ent_gresult : Ent := fun ds => match ds with
  | [.agg [.v (.bool neg), .ro n_xs ys_xs]] => some (d_ar (resG neg (unu ys_xs)), (ys_xs = u32s (unu ys_xs) ∧ n_xs = (unu ys_xs).length) ∧ (unu ys_xs).length ≤ 1000000)
  | _ => none
theorem ent_gresult_ok : EntOk Try.prog 59 ent_gresult := by
  intro ds d c h hc; unfold ent_gresult at h; split at h
  · rename_i neg n_xs ys_xs; obtain ⟨rfl, rfl⟩ := pair_inj h
    obtain ⟨⟨h1, h2⟩, hc⟩ := hc; subst h2; generalize (unu ys_xs) = xs at *; subst h1
    exact gresult_pure _ xs hc
  · cases h
end Go.Proofs.Ythnhfkpihbjddaa
