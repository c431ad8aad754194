import Derived.Test.YthnhfkpihbjddaaZKv17
import Derived.Test.YthnhfkpihbjddaaZKv9
import Derived.Test.YthnhfkpihbjddaaZKv12
import Derived.Test.YthnhfkpihbjddaaZKv8
import Derived.Test.YthnhfkpihbjddaaZKv16
section
namespace Go.Proofs.Ythnhfkpihbjddaa
open Go.VD
set_option linter.unusedVariables false
set_option linter.unusedSimpArgs false
set_option maxRecDepth 100000
def segL (off n : Nat) (zs : List Nat) : List Nat := (zs.drop off).take n
def d_sT (off n : Nat) : D := .sl 0 off n (.toEnd 1)
def d_fb (full : Bool) (o : List Nat) : Heap := [some ⟨41, u32s o, full⟩]
theorem segL_length {off n : Nat} {zs : List Nat} (h : off + n ≤ zs.length) : (segL off n zs).length = n := by simp [segL]; omega
theorem segL_get {off n k : Nat} {zs : List Nat} (h : k < n) : (segL off n zs).getD k 0 = zs.getD (off + k) 0 := by
  unfold segL; rw [take_getD h, getD_drop]
def lp_gtrim (full : Bool) (off n : Nat) (zs : List Nat) : LoopO := loopRuleD (α := Nat) (β := Unit) (fun k => k ≤ n ∧ tn (segL off n zs) k = tn (segL off n zs) n)
  (fun k => [(0, d_sT off n), (3, .v (.int .i64 (k : Int)))])
  (fun k => d_fb full zs) n (fun _ => True) (fun _ => (.exit 0, [(0, d_sT off n), (3, .v (.int .i64 (tn (segL off n zs) n : Nat)))], d_fb full zs))
theorem gtrim_rule (full : Bool) (off n : Nat) (zs : List Nat) (hpre : off + n ≤ zs.length ∧ zs.length ≤ 1000000) : LRule Try.prog Try.f56.ntmps (loopAt ((Try.f56.body).getD .skip) 2) (lp_gtrim full off n zs) := by
  refine lruleD_of (α := Nat) (β := Unit) (call := noCalls) (lp := fun _ => none) (N := 10) T_ok mixed noCalls_ok (fun k => k) (by kernel_rfl) (LpAll.none _) ?_
  intro x hJ
  refine of_eq (B := letI z8 := (Exit.exit (0 : Nat)); letI z2 := (Option.some (D.sl (0 : Nat) off n (Cap.toEnd (1 : Nat)))); letI z6 := ((x : Nat) : Int); letI z7 := segL off n zs; letI z3 := (Option.some (Blk.mk (41 : Nat) (u32s zs) full)); letI z0 := (True ∧ ((z8 = z8) ∧ (((z2 = z2) ∧ (((Option.some (D.v (Value.int IntKind.i64 z6))) = (Option.some (D.v (Value.int IntKind.i64 (((tn z7 n) : Nat) : Int))))) ∧ True)) ∧ ([z3] = [z3])))); letI z1 := (IntKind.wrap IntKind.i64 (z6 - (1 : Int))); letI z5 := (off + ((Int.toNat z1) * (1 : Nat))); letI z4 := (List.getD (u32s zs) z5 (Inhabited.default)); (True ∧ (True ∧ (True ∧ (pcond (Decidable.decide ((0 : Int) < z6)) (True ∧ (True ∧ (True ∧ ((((0 : Int) ≤ z1) ∧ (z1 < ((n : Nat) : Int))) ∧ (((z5 < (List.length (u32s zs))) ∧ (IsInt IntKind.u32 z4)) ∧ (True ∧ (True ∧ (pcond ((cellInt z4) == (0 : Int)) (True ∧ (True ∧ (True ∧ (∃ (y : Nat), ((y < x) ∧ (((y ≤ n) ∧ ((tn z7 y) = (tn z7 n))) ∧ (((z2 = z2) ∧ (((Option.some (D.v (Value.int IntKind.i64 z1))) = (Option.some (D.v (Value.int IntKind.i64 ((y : Nat) : Int))))) ∧ True)) ∧ ([z3] = [z3])))))))) (∃ (r : Unit), z0))))))))) (True ∧ (∃ (r : Unit), z0))))))) (by kernel_rfl) ?_
  obtain ⟨hl, hb⟩ := hpre
  obtain ⟨hx, ht⟩ := hJ
  simp only [true_and, and_true, and_self, IsInt_lit, IsBool_lit, IsStr_lit, Bool.not_eq_true', Bool.not_eq_false', Bool.not_true, Bool.not_false, Int.reduceLE, Int.reduceLT, Int.reduceNeg, Nat.le_refl, Int.le_refl, Nat.reduceLT, Nat.reduceLeDiff, Nat.reduceEqDiff, D.v.injEq, D.tup.injEq, D.agg.injEq, D.ro.injEq, List.cons.injEq, Value.int.injEq, Value.bool.injEq, pcond_true, pcond_false, NamelessL, Nameless, Nat.reduceMul, Nat.reduceAdd, Nat.zero_add, Int.toNat_natCast]
  refine pcond_intro (fun h => ?_) (fun h => ?_)
  · simp only [decide_eq_true_eq] at h
    obtain ⟨j, rfl⟩ : ∃ j, x = j + 1 := ⟨x - 1, by omega⟩
    have e : IntKind.i64.wrap (((j + 1 : Nat) : Int) - 1) = (j : Int) := by rw [wrap_i64_of (by omega) (by omega)]; omega
    have hg := segL_get (off := off) (zs := zs) (show j < n by omega)
    simp only [e, Int.toNat_natCast, Nat.mul_one, u32s_cell, u32s_length, u32s_isInt _ _ (show off + j < zs.length by omega)]
    refine ⟨⟨by omega, by omega⟩, ⟨by omega, trivial⟩, pcond_intro (fun h2 => ⟨j, by omega, ⟨by omega, ?_⟩, rfl⟩) (fun h2 => ⟨(), ?_⟩)⟩
    · have h3 : zs.getD (off + j) 0 = 0 := by simpa using h2
      rw [← ht, tn, hg, if_pos h3]
    · have h3 : ¬ zs.getD (off + j) 0 = 0 := by simpa using h2
      have : tn (segL off n zs) n = j + 1 := by rw [← ht, tn, hg, if_neg h3]
      simp [this]
  · have : tn (segL off n zs) n = x := by rw [← ht]; simp at h; subst h; rfl
    refine ⟨(), ?_⟩
    simp [this]
theorem gtrim_mut (full : Bool) (off n : Nat) (zs : List Nat) (hpre : off + n ≤ zs.length ∧ zs.length ≤ 1000000) : MutJ Try.prog 56 off n (.toEnd 1) [] ⟨41, u32s zs, full⟩ (.ro (trimL (segL off n zs)).length (u32s (trimL (segL off n zs)))) ⟨41, u32s zs, full⟩ := by
  refine mutJ_of_vcxK (call := noCalls) (lp := fun k' => bif Nat.beq k' 2 then some (lp_gtrim full off n zs) else none) (N := 10) T_ok mixed noCalls_ok Try.func56 rfl (by decide) (by kernel_rfl) (by kernel_rfl)
    (of_eq (B := LRule Try.prog Try.f56.ntmps (loopAt ((Try.f56.body).getD .skip) 2) (lp_gtrim full off n zs) ∧ True) (by kernel_rfl) ⟨gtrim_rule full off n zs hpre, trivial⟩) (by simp [NamelessL]) (by simp [Nameless, u32s_nameless]) (u32s_nameless _) (u32s_nameless _) ?_
  refine of_eq (B := letI z9 := segL off n zs; letI z3 := (tn z9 n); letI z7 := ((z3 : Nat) : Int); letI z0 := ((Int.toNat z7) - (0 : Nat)); letI z1 := (([] : List D) ++ (List.take (z0 * (1 : Nat)) (List.drop (off + (0 : Nat)) (u32s zs)))); letI z2 := (Option.some (Blk.mk (41 : Nat) (u32s zs) full)); letI z4 := (Option.some (D.v (Value.int IntKind.i64 ((n : Nat) : Int)))); letI z5 := (Option.some (D.sl (0 : Nat) off n (Cap.toEnd (1 : Nat)))); letI z6 := ((0 : Nat) + z0); letI z8 := (9223372036854775807 : Nat); letI z10 := ((1 : Nat) = (1 : Nat)); letI z11 := ((0 : Nat) < (1 : Nat)); (True ∧ (True ∧ (True ∧ (True ∧ (((n ≤ n) ∧ (z3 = z3)) ∧ (((z5 = z5) ∧ ((z4 = z4) ∧ True)) ∧ (([z2] = [z2]) ∧ (Unit → (True → ((((0 : Nat) ≤ (16777216 : Nat)) ∧ ((0 : Nat) ≤ z8)) ∧ (True ∧ (True ∧ (((True ∧ ((((0 : Int) ≤ z7) ∧ (z7 ≤ ((n : Nat) : Int))) ∧ True)) ∧ z10) ∧ (((((off + (0 : Nat)) + (z0 * (1 : Nat))) ≤ (List.length (u32s zs))) ∧ (((22 : Nat) = (22 : Nat)) ∧ (z10 ∧ (((41 : Nat) = (41 : Nat)) ∧ (((0 : Nat) ≤ (0 : Nat)) ∧ (z11 ∧ ((z6 ≤ z8) ∧ ((z6 * (4 : Nat)) ≤ (140737488355328 : Nat))))))))) ∧ (True ∧ (True ∧ ((((Option.some z2) = (Option.some z2)) ∧ (Bool.false = Bool.false)) ∧ (((NamelessL z1) ∧ (z11 ∧ (((0 : Nat) + (z6 * (1 : Nat))) ≤ (List.length z1)))) ∧ ((D.ro z6 (List.take (z6 * (1 : Nat)) (List.drop (0 : Nat) z1))) = (D.ro (List.length (trimL z9)) (u32s (trimL z9))))))))))))))))))))))) (by kernel_rfl) ?_
  obtain ⟨hl, hb⟩ := hpre
  have ht := tn_le (segL off n zs) n
  have hsl := segL_length hl
  have e1 : trimL (segL off n zs) = (segL off n zs).take (tn (segL off n zs) n) := by unfold trimL; rw [hsl]
  have e2 : List.take (tn (segL off n zs) n) (List.drop off (u32s zs)) = u32s ((segL off n zs).take (tn (segL off n zs) n)) := by
    rw [u32s_drop, u32s_take]; unfold segL; rw [List.take_take, Nat.min_eq_left (by unfold segL at ht; exact ht)]
  have e3 : ((segL off n zs).take (tn (segL off n zs) n)).length = tn (segL off n zs) n := by rw [List.length_take, hsl]; omega
  have e4 : List.take (tn (segL off n zs) n) (u32s ((segL off n zs).take (tn (segL off n zs) n))) = u32s ((segL off n zs).take (tn (segL off n zs) n)) := by
    rw [u32s_take, List.take_take, Nat.min_self]
  simp only [true_and, and_true, and_self, IsInt_lit, IsBool_lit, IsStr_lit, Bool.not_eq_true', Bool.not_eq_false', Bool.not_true, Bool.not_false, Int.reduceLE, Int.reduceLT, Int.reduceNeg, Nat.le_refl, Int.le_refl, Nat.reduceLT, Nat.reduceLeDiff, Nat.reduceEqDiff, D.v.injEq, D.tup.injEq, D.agg.injEq, D.ro.injEq, List.cons.injEq, Value.int.injEq, Value.bool.injEq, pcond_true, pcond_false, NamelessL, Nameless, Nat.reduceMul, Nat.reduceAdd, Nat.zero_add, Int.toNat_natCast, Nat.add_zero, Nat.sub_zero, Nat.mul_one, List.nil_append, List.drop_zero, e1, e2, e3, e4, u32s_length]
  exact fun _ _ => ⟨⟨by omega, by omega⟩, ⟨by omega, by omega, by omega⟩, u32s_nameless _⟩
def entm_gtrim : EntM := fun off n c plain blk => match c, plain, blk with
  | .toEnd 1, [], ⟨ty, cs, full⟩ => some (.ro (trimL (segL off n (unu cs))).length (u32s (trimL (segL off n (unu cs)))), ⟨ty, cs, full⟩, (ty = 41 ∧ cs = u32s (unu cs)) ∧ off + n ≤ (unu cs).length ∧ (unu cs).length ≤ 1000000)
  | _, _, _ => none
theorem entm_gtrim_ok : EntMOk Try.prog 56 entm_gtrim := by
  intro off n c plain blk d blk' p h hp
  unfold entm_gtrim at h
  split at h
  · rename_i ty cs full
    simp only [Option.some.injEq, Prod.mk.injEq] at h
    obtain ⟨rfl, rfl, rfl⟩ := h
    obtain ⟨⟨rfl, hcs⟩, hl⟩ := hp
    generalize unu cs = zs at *
    subst hcs
    exact gtrim_mut full off n zs hl
  · cases h
theorem gless_pure (us ys : List Nat) (g : Int) (hpre : ((us.length ≤ 200000 ∧ ys.length ≤ 100000) ∧ ys.length + 1 ≤ us.length) ∧ (Dig us ∧ Dig ys) ∧ 0 ≤ g ∧ g < 18446744073709551616) : PureJ Try.prog 101 [.ro us.length (u32s us), .ro ys.length (u32s ys), .v (.int .u64 g)] (.v (.bool (decide (nv (us.take (ys.length + 1)) < nv ys * g.toNat)))) := by
  refine pureJ_of_vcx (call := (addPure 86 ent_digits (addPure 69 ent_times (addPure 56 ent_trim (addPure 61 ent_cmpr noCalls))))) (lp := fun _ => none) (N := 10) T_ok mixed (addPure_ok ent_digits_ok (addPure_ok ent_times_ok (addPure_ok ent_trim_ok (addPure_ok ent_cmpr_ok noCalls_ok)))) Try.func101 rfl (by decide) (by kernel_rfl) (by kernel_rfl) (LpAll.none _) (by first | trivial | (simp only [NamelessL, Nameless, and_self, and_true, true_and]; done) | (simp [NamelessL, Nameless, u32s_nameless, namelessL_ints]; done)) (by first | trivial | (simp only [NamelessL, Nameless, and_self, and_true, true_and]; done) | (simp [NamelessL, Nameless, u32s_nameless, namelessL_ints]; done)) ?_
  refine of_eq (B := letI z7 := List.length ys; letI z2 := (IntKind.wrap IntKind.i64 (((z7 : Nat) : Int) + (1 : Int))); letI z0 := (List.take ((Int.toNat z2) * (1 : Nat)) (u32s us)); letI z5 := (unu (u32s ys)); letI z6 := (dg (Int.toNat g)); letI z3 := (unu (u32s z6)); letI z1 := (dg ((nv z5) * (nv z3))); letI z4 := (u32s (trimL (unu z0))); letI z8 := (unu (u32s z1)); letI z9 := (List.length (unu z0)); letI z10 := (List.length (unu z4)); (True ∧ (True ∧ (True ∧ ((((0 : Int) ≤ g) ∧ (g < (18446744073709551616 : Int))) ∧ (((((u32s z6) = (u32s z3)) ∧ ((List.length z6) = (List.length z3))) ∧ ((((u32s ys) = (u32s z5)) ∧ (z7 = (List.length z5))) ∧ (((List.length z5) ≤ (400000 : Nat)) ∧ (((List.length z3) ≤ (400000 : Nat)) ∧ ((Dig z5) ∧ (Dig z3)))))) ∧ (True ∧ (True ∧ (True ∧ (True ∧ (True ∧ ((True ∧ ((((0 : Int) ≤ z2) ∧ (z2 ≤ (((List.length us) : Nat) : Int))) ∧ True)) ∧ ((((z0 = (u32s (unu z0))) ∧ (((Int.toNat z2) - (0 : Nat)) = z9)) ∧ (z9 ≤ (1000000 : Nat))) ∧ (True ∧ (((((u32s z1) = (u32s z8)) ∧ ((List.length z1) = (List.length z8))) ∧ (((z4 = (u32s (unu z4))) ∧ ((List.length (trimL (unu z0))) = z10)) ∧ (z10 ≤ (1000000000000 : Nat)))) ∧ (True ∧ (True ∧ (True ∧ (True ∧ ((D.v (Value.bool (Decidable.decide ((cmpL (unu z4) z8) < (0 : Int))))) = (D.v (Value.bool (Decidable.decide ((nv (List.take (z7 + (1 : Nat)) us)) < ((nv ys) * (Int.toNat g)))))))))))))))))))))))))) (by kernel_rfl) ?_
  obtain ⟨⟨⟨hlu, hly⟩, hle⟩, ⟨hu, hy⟩, hg0, hg⟩ := hpre
  obtain ⟨g, rfl⟩ := Int.eq_ofNat_of_zero_le hg0
  have w : IntKind.i64.wrap ((ys.length : Int) + 1) = ((ys.length + 1 : Nat) : Int) := by rw [wrap_i64_of (by omega) (by omega)]; omega
  have hl2 := dg_len64 (v := g) (by omega)
  have hlt : (us.take (ys.length + 1)).length = ys.length + 1 := by simp; omega
  have ht : trimL (us.take (ys.length + 1)) = dg (nv (us.take (ys.length + 1))) := trimL_dig (hu.take _)
  have hdl : (dg (nv (us.take (ys.length + 1)))).length ≤ ys.length + 1 := by
    have := dg_length_le (nv_lt (hu.take (ys.length + 1)))
    rw [hlt] at this; exact this
  have hc : decide (cmpL (dg (nv (us.take (ys.length + 1)))) (dg (nv ys * g)) < 0) = decide (nv (us.take (ys.length + 1)) < nv ys * g) := by
    rw [cmpL_dg, decide_eq_decide]
    unfold cmpN
    split
    · rename_i h; simp [h]
    · rename_i h; split <;> simp [h]
  simp only [true_and, and_true, and_self, IsInt_lit, IsBool_lit, IsStr_lit, Bool.not_eq_true', Bool.not_eq_false', Bool.not_true, Bool.not_false, Int.reduceLE, Int.reduceLT, Int.reduceNeg, Nat.le_refl, Int.le_refl, Nat.reduceLT, Nat.reduceLeDiff, Nat.reduceEqDiff, D.v.injEq, D.tup.injEq, D.agg.injEq, D.ro.injEq, List.cons.injEq, Value.int.injEq, Value.bool.injEq, pcond_true, pcond_false, NamelessL, Nameless, Nat.reduceMul, Nat.reduceAdd, Nat.zero_add, Int.toNat_natCast, unu_u32s, Int.ofNat_eq_natCast, w, u32s_take, ht, nv_dg, hc, Nat.mul_one, hlt, Nat.sub_zero]
  exact ⟨⟨by omega, by omega⟩, ⟨by omega, by omega, hy, dg_dig _⟩, ⟨by omega, by omega⟩, by omega, by omega⟩
def ent_gless : Ent := fun ds => match ds with
  | [.ro n_us ys_us, .ro n_ys ys_ys, .v (.int .u64 g)] => some (.v (.bool (decide (nv ((unu ys_us).take ((unu ys_ys).length + 1)) < nv (unu ys_ys) * g.toNat))), (ys_ys = u32s (unu ys_ys) ∧ n_ys = (unu ys_ys).length) ∧ (ys_us = u32s (unu ys_us) ∧ n_us = (unu ys_us).length) ∧ (((unu ys_us).length ≤ 200000 ∧ (unu ys_ys).length ≤ 100000) ∧ (unu ys_ys).length + 1 ≤ (unu ys_us).length) ∧ (Dig (unu ys_us) ∧ Dig (unu ys_ys)) ∧ 0 ≤ g ∧ g < 18446744073709551616)
  | _ => none
theorem ent_gless_ok : EntOk Try.prog 101 ent_gless := by
  intro ds d c h hc; unfold ent_gless at h; split at h
  · rename_i n_us ys_us n_ys ys_ys g; obtain ⟨rfl, rfl⟩ := pair_inj h
    obtain ⟨⟨h1, h2⟩, hc⟩ := hc; subst h2; generalize (unu ys_ys) = ys at *; subst h1
    obtain ⟨⟨h1, h2⟩, hc⟩ := hc; subst h2; generalize (unu ys_us) = us at *; subst h1
    exact gless_pure us ys _ hc
  · cases h
def tkR (off : Nat) (zs ys : List Nat) (g : Nat) : Nat := uS off zs (ys.length + 1) - nv ys * g
def tkT (off : Nat) (zs ys : List Nat) (g i : Nat) : List Nat := zs.take off ++ (dgn i (tkR off zs ys g) ++ zs.drop (off + i))
theorem dg_getD (v i : Nat) : (dg v).getD i 0 = v / 4294967296 ^ i % 4294967296 := by
  have h1 := dgn_nv (dg_dig v)
  rw [nv_dg] at h1
  by_cases h : i < (dg v).length
  · rw [← h1]; exact dgn_getD _ _ _ h
  · rw [List.getD_eq_getElem?_getD, List.getElem?_eq_none (by omega)]
    have := lt_of_dg_length (v := v) (k := i) (by omega)
    rw [Nat.div_eq_of_lt this]; rfl
theorem tkT_length {off : Nat} {zs ys : List Nat} {g i : Nat} (h : off + i ≤ zs.length) : (tkT off zs ys g i).length = zs.length := by
  simp [tkT, dgn_length]; omega
theorem tkT_set {off : Nat} {zs ys : List Nat} {g i : Nat} (h1 : off + i < zs.length) : (tkT off zs ys g i).set (off + i) (tkR off zs ys g / 4294967296 ^ i % 4294967296) = tkT off zs ys g (i + 1) := by
  have l1 : (zs.take off).length = off := by simp; omega
  unfold tkT
  rw [dgn_succ, List.set_append_right _ _ (by omega), l1, show off + i - off = i by omega, List.set_append_right _ _ (by rw [dgn_length]; exact Nat.le_refl _), dgn_length, Nat.sub_self, List.drop_eq_getElem_cons h1]
  simp [Nat.add_assoc]
def lp_gtake (off m : Nat) (zs ys : List Nat) (g : Nat) : LoopO := loopRuleD (α := Nat) (β := Unit) (fun i => i ≤ ys.length + 1)
  (fun i => [(0, d_sT off m), (1, .ro ys.length (u32s ys)), (6, .ro (dg (tkR off zs ys g)).length (u32s (dg (tkR off zs ys g)))), (7, .v (.int .i64 (i : Int)))])
  (fun i => d_blk2 (tkT off zs ys g i)) 0 (fun _ => True) (fun _ => (.exit 0, [], d_blk2 (tkT off zs ys g (ys.length + 1))))
def tkHyp (off m : Nat) (zs ys : List Nat) (g : Nat) : Prop := ((ys.length + 1 ≤ m ∧ off + m ≤ zs.length) ∧ zs.length ≤ 200000) ∧ (Dig zs ∧ Dig ys) ∧ g < 4294967296 ∧ nv ys * g ≤ uS off zs (ys.length + 1)
theorem gtake_rule (off m : Nat) (zs ys : List Nat) (g : Nat) (hpre : tkHyp off m zs ys g) : LRule Try.prog Try.f102.ntmps (loopAt ((Try.f102.body).getD .skip) 2) (lp_gtake off m zs ys g) := by
  refine lruleD_of (α := Nat) (β := Unit) (call := noCalls) (lp := fun _ => none) (N := 10) T_ok mixed noCalls_ok (fun i => ys.length + 1 - i) (by kernel_rfl) (LpAll.none _) ?_
  intro i hJ
  refine of_eq (B := letI z5 := ((i : Nat) : Int); letI z0 := ((Int.toNat z5) * (1 : Nat)); letI z7 := (dg (tkR off zs ys g)); letI z1 := (Option.some (D.ro (List.length z7) (u32s z7))); letI z10 := (u32s (tkT off zs ys g i)); letI z2 := (List.set z10 (off + z0) (D.v (Value.int IntKind.u32 (0 : Int)))); letI z3 := (Option.some (D.sl (0 : Nat) off m (Cap.toEnd (1 : Nat)))); letI z13 := List.length ys; letI z4 := (z13 + (1 : Nat)); letI z6 := (Option.some (D.ro z13 (u32s ys))); letI z8 := (Option.some (D.v (Value.int IntKind.i64 (IntKind.wrap IntKind.i64 (z5 + (1 : Int)))))); letI z9 := (((0 : Int) ≤ z5) ∧ (z5 < ((m : Nat) : Int))); letI z11 := (List.getD (u32s z7) z0 (Inhabited.default)); letI z12 := (((List.length z7) : Nat) : Int); letI z14 := ((off + z0) + (1 : Nat)); letI z15 := ((1 : Nat) = (1 : Nat)); letI z16 := (Exit.exit (0 : Nat)); (True ∧ (True ∧ (True ∧ (True ∧ (pcond (Decidable.decide (z5 ≤ ((z13 : Nat) : Int))) (True ∧ (True ∧ (z9 ∧ ((z15 ∧ (z14 ≤ (List.length z10))) ∧ (True ∧ (True ∧ (True ∧ (True ∧ (pcond (Decidable.decide (z5 < z12)) (True ∧ (True ∧ (True ∧ (True ∧ ((((0 : Int) ≤ z5) ∧ (z5 < z12)) ∧ (((z0 < (List.length (u32s z7))) ∧ (IsInt IntKind.u32 z11)) ∧ (z9 ∧ ((z15 ∧ (z14 ≤ (List.length z2))) ∧ (True ∧ (True ∧ (True ∧ (∃ (y : Nat), (((z4 - y) < (z4 - i)) ∧ ((y ≤ z4) ∧ (((z3 = z3) ∧ ((z6 = z6) ∧ ((z1 = z1) ∧ ((z8 = (Option.some (D.v (Value.int IntKind.i64 ((y : Nat) : Int))))) ∧ True)))) ∧ ([(Option.some (Blk.mk (41 : Nat) (List.set z2 (off + z0) (D.v (Value.int IntKind.u32 (cellInt z11)))) Bool.true))] = [(Option.some (Blk.mk (41 : Nat) (u32s (tkT off zs ys g y)) Bool.true))])))))))))))))))) (True ∧ (True ∧ (True ∧ (∃ (y : Nat), (((z4 - y) < (z4 - i)) ∧ ((y ≤ z4) ∧ (((z3 = z3) ∧ ((z6 = z6) ∧ ((z1 = z1) ∧ ((z8 = (Option.some (D.v (Value.int IntKind.i64 ((y : Nat) : Int))))) ∧ True)))) ∧ ([(Option.some (Blk.mk (41 : Nat) z2 Bool.true))] = [(Option.some (Blk.mk (41 : Nat) (u32s (tkT off zs ys g y)) Bool.true))]))))))))))))))))) (∃ (r : Unit), (True ∧ ((z16 = z16) ∧ (True ∧ ([(Option.some (Blk.mk (41 : Nat) z10 Bool.true))] = [(Option.some (Blk.mk (41 : Nat) (u32s (tkT off zs ys g z4)) Bool.true))]))))))))))) (by kernel_rfl) ?_
  simp only [true_and, and_true, and_self, IsInt_lit, IsBool_lit, IsStr_lit, Bool.not_eq_true', Bool.not_eq_false', Bool.not_true, Bool.not_false, Int.reduceLE, Int.reduceLT, Int.reduceNeg, Nat.le_refl, Int.le_refl, Nat.reduceLT, Nat.reduceLeDiff, Nat.reduceEqDiff, D.v.injEq, D.tup.injEq, D.agg.injEq, D.ro.injEq, List.cons.injEq, Value.int.injEq, Value.bool.injEq, pcond_true, pcond_false, NamelessL, Nameless, Nat.reduceMul, Nat.reduceAdd, Nat.zero_add, Int.toNat_natCast]
  obtain ⟨⟨⟨hm, hl⟩, hb⟩, ⟨hz, hy⟩, hg, hle⟩ := hpre
  have hlen := tkT_length (ys := ys) (g := g) (show off + i ≤ zs.length by omega)
  have w : IntKind.i64.wrap ((i : Int) + 1) = ((i + 1 : Nat) : Int) := by rw [wrap_i64_of (by omega) (by omega)]; omega
  simp only [w, Nat.mul_one, u32s_cell, u32s_length, hlen, List.length_set, List.set_set, u32s_put]
  have c0 : ∀ o : List Nat, (u32s o).set (off + i) (D.v (Value.int IntKind.u32 0)) = u32s (o.set (off + i) 0) := fun o => u32s_put o (off + i) 0
  simp only [c0]
  refine pcond_intro (fun h => ⟨⟨by omega, ?_⟩, ?_, pcond_intro (fun h2 => ?_) (fun h2 => ?_)⟩) (fun h => ⟨(), ?_⟩)
  · simp only [decide_eq_true_eq] at h; omega
  · simp only [decide_eq_true_eq] at h; omega
  · simp only [decide_eq_true_eq] at h h2
    have hs := tkT_set (ys := ys) (g := g) (show off + i < zs.length by omega)
    rw [← dg_getD] at hs
    rw [hs]
    exact ⟨⟨by omega, by omega⟩, ⟨by omega, by rw [u32s_isInt _ _ (by omega)]; trivial⟩, ⟨by omega, by omega⟩, by omega, i + 1, by omega, by omega, rfl, rfl⟩
  · simp only [decide_eq_true_eq, decide_eq_false_iff_not] at h h2
    have hs := tkT_set (ys := ys) (g := g) (show off + i < zs.length by omega)
    rw [← dg_getD] at hs
    have : (dg (tkR off zs ys g)).getD i 0 = 0 := by rw [List.getD_eq_getElem?_getD, List.getElem?_eq_none (by omega)]; rfl
    rw [this] at hs
    rw [hs]
    exact ⟨i + 1, by omega, by omega, rfl, rfl⟩
  · simp only [decide_eq_false_iff_not] at h
    have : i = ys.length + 1 := by omega
    subst this; rfl
theorem gtake_mut (off m : Nat) (zs ys : List Nat) (g : Nat) (hpre : tkHyp off m zs ys g) : MutJ Try.prog 102 off m (.toEnd 1) [.ro ys.length (u32s ys), .v (.int .u64 (g : Int))] ⟨41, u32s zs, true⟩ (.tup []) ⟨41, u32s (tkT off zs ys g (ys.length + 1)), true⟩ := by
  refine mutJ_of_vcx (call := addMut 56 entm_gtrim (addPure 86 ent_digits (addPure 69 ent_times (addPure 58 ent_minus noCalls)))) (lp := fun k' => bif Nat.beq k' 2 then some (lp_gtake off m zs ys g) else none) (N := 10) T_ok mixed (addMut_ok entm_gtrim_ok (addPure_ok ent_digits_ok (addPure_ok ent_times_ok (addPure_ok ent_minus_ok noCalls_ok)))) Try.func102 rfl (by decide) (by kernel_rfl) (by kernel_rfl)
    (of_eq (B := LRule Try.prog Try.f102.ntmps (loopAt ((Try.f102.body).getD .skip) 2) (lp_gtake off m zs ys g) ∧ True) (by kernel_rfl) ⟨gtake_rule off m zs ys g hpre, trivial⟩) (by simp [NamelessL, Nameless, u32s_nameless]) (by simp [Nameless, NamelessL]) (u32s_nameless _) (u32s_nameless _) ?_
  refine of_eq (B := letI z7 := List.length ys; letI z2 := (IntKind.wrap IntKind.i64 (((z7 : Nat) : Int) + (1 : Int))); letI z15 := ((Int.toNat z2) - (0 : Nat)); letI z12 := (unu (u32s zs)); letI z0 := (trimL (segL (off + (0 : Nat)) z15 z12)); letI z10 := (unu (u32s ys)); letI z11 := ((g : Nat) : Int); letI z21 := (dg (Int.toNat z11)); letI z3 := (u32s z21); letI z1 := (dg ((nv z10) * (nv (unu z3)))); letI z4 := (Option.some (Blk.mk (41 : Nat) (u32s (tkT off zs ys g (z7 + (1 : Nat)))) Bool.true)); letI z5 := (unu (u32s z0)); letI z6 := (unu (u32s z1)); letI z8 := (Option.some (D.sl (0 : Nat) off m (Cap.toEnd (1 : Nat)))); letI z9 := (Option.some (D.v (Value.int IntKind.i64 (0 : Int)))); letI z13 := (Option.some (D.ro z7 (u32s ys))); letI z14 := List.length z5; letI z16 := (400000 : Nat); letI z17 := (dg ((nv z5) - (nv z6))); letI z18 := (List.length (unu z3)); letI z19 := (dg (tkR off zs ys g)); letI z20 := (D.tup ([] : List D)); (True ∧ (True ∧ (True ∧ (True ∧ (((True ∧ ((((0 : Int) ≤ z2) ∧ (z2 ≤ ((m : Nat) : Int))) ∧ True)) ∧ ((1 : Nat) = (1 : Nat))) ∧ (((((41 : Nat) = (41 : Nat)) ∧ ((u32s zs) = (u32s z12))) ∧ ((((off + (0 : Nat)) + z15) ≤ (List.length z12)) ∧ ((List.length z12) ≤ (1000000 : Nat)))) ∧ (True ∧ (True ∧ ((((0 : Int) ≤ z11) ∧ (z11 < (18446744073709551616 : Int))) ∧ ((((z3 = (u32s (unu z3))) ∧ ((List.length z21) = z18)) ∧ ((((u32s ys) = (u32s z10)) ∧ (z7 = (List.length z10))) ∧ (((List.length z10) ≤ z16) ∧ ((z18 ≤ z16) ∧ ((Dig z10) ∧ (Dig (unu z3))))))) ∧ (((((u32s z1) = (u32s z6)) ∧ ((List.length z1) = (List.length z6))) ∧ ((((u32s z0) = (u32s z5)) ∧ ((List.length z0) = z14)) ∧ (((z14 ≤ z16) ∧ (((List.length z6) ≤ z14) ∧ ((Dig z5) ∧ (Dig z6)))) ∧ ((nv z6) ≤ (nv z5))))) ∧ (True ∧ (True ∧ (((0 : Nat) ≤ (z7 + (1 : Nat))) ∧ (((z8 = z8) ∧ ((z13 = z13) ∧ (((Option.some (D.ro (List.length z17) (u32s z17))) = (Option.some (D.ro (List.length z19) (u32s z19)))) ∧ ((z9 = z9) ∧ True)))) ∧ (([(Option.some (Blk.mk (41 : Nat) (u32s zs) Bool.true))] = [(Option.some (Blk.mk (41 : Nat) (u32s (tkT off zs ys g (0 : Nat))) Bool.true))]) ∧ (Unit → (True → (True ∧ ((z20 = z20) ∧ ([z4] = [z4])))))))))))))))))))))) (by kernel_rfl) ?_
  obtain ⟨⟨⟨hm, hl⟩, hb⟩, ⟨hz, hy⟩, hg, hle⟩ := hpre
  have w : IntKind.i64.wrap ((ys.length : Int) + 1) = ((ys.length + 1 : Nat) : Int) := by rw [wrap_i64_of (by omega) (by omega)]; omega
  have ht : trimL (segL off (ys.length + 1) zs) = dg (uS off zs (ys.length + 1)) := trimL_dig ((hz.drop _).take _)
  have hl2 := dg_len64 (v := g) (by omega)
  have hul : (dg (uS off zs (ys.length + 1))).length ≤ ys.length + 1 := dg_length_le (uS_lt hz (by omega))
  have e0 : tkT off zs ys g 0 = zs := by simp [tkT, dgn]
  have e1 : dg (uS off zs (ys.length + 1) - nv ys * g) = dg (tkR off zs ys g) := rfl
  simp only [true_and, and_true, and_self, IsInt_lit, IsBool_lit, IsStr_lit, Bool.not_eq_true', Bool.not_eq_false', Bool.not_true, Bool.not_false, Int.reduceLE, Int.reduceLT, Int.reduceNeg, Nat.le_refl, Int.le_refl, Nat.reduceLT, Nat.reduceLeDiff, Nat.reduceEqDiff, D.v.injEq, D.tup.injEq, D.agg.injEq, D.ro.injEq, List.cons.injEq, Value.int.injEq, Value.bool.injEq, pcond_true, pcond_false, NamelessL, Nameless, Nat.reduceMul, Nat.reduceAdd, Nat.zero_add, Int.toNat_natCast, unu_u32s, w, Nat.add_zero, Nat.sub_zero, ht, nv_dg, e0, e1]
  exact ⟨⟨by omega, by omega⟩, ⟨by omega, by omega⟩, ⟨by omega, by omega⟩, ⟨by omega, by omega, hy, dg_dig _⟩, ⟨⟨by omega, dg_len_mono hle, dg_dig _, dg_dig _⟩, hle⟩, fun _ _ => trivial⟩
def entm_gtake : EntM := fun off n c plain blk => match c, plain, blk with
  | .toEnd 1, [.ro m ys, .v (.int .u64 g)], ⟨ty, cs, full⟩ => some (.tup [], ⟨ty, u32s (tkT off (unu cs) (unu ys) g.toNat ((unu ys).length + 1)), full⟩, ((ty = 41 ∧ full = true) ∧ (cs = u32s (unu cs) ∧ ys = u32s (unu ys))) ∧ m = (unu ys).length ∧ 0 ≤ g ∧ tkHyp off n (unu cs) (unu ys) g.toNat)
  | _, _, _ => none
theorem entm_gtake_ok : EntMOk Try.prog 102 entm_gtake := by
  intro off n c plain blk d blk' p h hp
  unfold entm_gtake at h
  split at h
  · rename_i m ys g ty cs full
    simp only [Option.some.injEq, Prod.mk.injEq] at h
    obtain ⟨rfl, rfl, rfl⟩ := h
    obtain ⟨⟨⟨rfl, rfl⟩, hcs, hys⟩, hm, hg0, hq⟩ := hp
    obtain ⟨g, rfl⟩ := Int.eq_ofNat_of_zero_le hg0
    generalize unu cs = zs at *
    generalize unu ys = yl at *
    subst hcs; subst hys; subst hm
    simp only [Int.ofNat_eq_natCast, Int.toNat_natCast] at *
    exact gtake_mut off n zs yl g hq
  · cases h
end Go.Proofs.Ythnhfkpihbjddaa
end
section
namespace Go.Proofs.Ythnhfkpihbjddaa
open Go.VD
set_option linter.unusedVariables false
set_option linter.unusedSimpArgs false
set_option maxRecDepth 100000
def quoT (xs : List Nat) (d k : Nat) : List Nat := List.replicate k 0 ++ (dgn xs.length (nv xs / d)).drop k
theorem quoT_length {xs : List Nat} {d k : Nat} (h : k ≤ xs.length) : (quoT xs d k).length = xs.length := by
  simp [quoT, dgn_length]; omega
theorem quoT_set {xs : List Nat} {d k : Nat} (hz : Dig xs) (hd : 0 < d) (hk : k < xs.length) : (quoT xs d (k + 1)).set k ((remT xs xs.length d (k + 1) * 4294967296 + xs.getD k 0) / d) = quoT xs d k := by
  rw [quo_digit hz (Nat.le_refl _) hd hk, List.take_length]
  have e2 : (dgn xs.length (nv xs / d)).drop k = (nv xs / d / 4294967296 ^ k % 4294967296) :: (dgn xs.length (nv xs / d)).drop (k + 1) := by
    rw [List.drop_eq_getElem_cons (by rw [dgn_length]; exact hk)]
    congr 1
    rw [← dgn_getD xs.length _ k hk, List.getD_eq_getElem?_getD, List.getElem?_eq_getElem (by rw [dgn_length]; exact hk)]; rfl
  unfold quoT
  rw [e2, List.replicate_succ', List.append_assoc, List.set_append_right _ _ (by simp)]
  simp
def lp_shortLoop (xs : List Nat) (d : Nat) : LoopO := loopRule (α := Nat) (β := Unit) [some 0] (fun k => k ≤ xs.length) (fun k => [(0, .ro xs.length (u32s xs)), (1, .v (.int .u32 (d : Int))), (6, d_out xs.length), (7, .v (.int .u64 (remT xs xs.length d k : Nat))), (8, .v (.int .i64 ((k : Int) - 1)))]) (fun k => d_blk (quoT xs d k)) (xs.length) (fun _ => True) (fun _ => (.exit 0, [(6, d_out xs.length), (7, .v (.int .u64 (nv xs % d : Nat)))], d_blk (dgn xs.length (nv xs / d))))
theorem shortLoop_rule (xs : List Nat) (d : Nat) (hpre : xs.length ≤ 400000 ∧ Dig xs ∧ 0 < d ∧ d < 4294967296) : LRuleP Try.prog Try.f98.ntmps (loopAt ((Try.f98.body).getD .skip) 4) (lp_shortLoop xs d) := by
  refine lrule_of (α := Nat) (β := Unit) (call := noCalls) (lp := fun _ => none) (N := 10) T_ok mixed noCalls_ok (fun k => k) (by kernel_rfl) (LpAllP.none _) ?_
  intro x hJ
  refine of_eq (B := letI z0 := (((x : Nat) : Int) - (1 : Int)); letI z3 := List.length xs; letI z13 := (((remT xs z3 d x) : Nat) : Int); letI z5 := ((Int.toNat z0) * (1 : Nat)); letI z9 := (List.getD (u32s xs) z5 (Inhabited.default)); letI z1 := (bits BinOp.or IntKind.u64 (IntKind.wrap IntKind.u64 (z13 * (4294967296 : Int))) (IntKind.wrap IntKind.u64 (cellInt z9))); letI z11 := (Exit.exit (0 : Nat)); letI z14 := (Prod.mk (6 : Nat) (d_out z3)); letI z2 := (Prod.mk z11 (Prod.mk [z14, (Prod.mk (7 : Nat) (D.v (Value.int IntKind.u64 ((((nv xs) % d) : Nat) : Int))))] (d_blk (dgn z3 ((nv xs) / d))))); letI z4 := (IntKind.wrap IntKind.u64 ((d : Nat) : Int)); letI z6 := (Prod.mk (6 : Nat) (D.sl (0 : Nat) (0 : Nat) z3 (Cap.toEnd (1 : Nat)))); letI z7 := (Prod.mk (1 : Nat) (D.v (Value.int IntKind.u32 ((d : Nat) : Int)))); letI z8 := (((0 : Int) ≤ z0) ∧ (z0 < ((z3 : Nat) : Int))); letI z10 := (Prod.mk (0 : Nat) (D.ro z3 (u32s xs))); letI z12 := (u32s (quoT xs d x)); letI z15 := (List (Option Nat)); (True ∧ (True ∧ (pcond (Decidable.decide ((0 : Int) ≤ z0)) (True ∧ (((0 : Int) ≤ (32 : Int)) ∧ (True ∧ (True ∧ (z8 ∧ (((z5 < (List.length (u32s xs))) ∧ (IsInt IntKind.u32 z9)) ∧ (True ∧ (True ∧ (True ∧ (True ∧ (True ∧ (True ∧ (True ∧ (True ∧ ((z4 ≠ (0 : Int)) ∧ (True ∧ (z8 ∧ ((((1 : Nat) = (1 : Nat)) ∧ ((((0 : Nat) + z5) + (1 : Nat)) ≤ (List.length z12))) ∧ (True ∧ (True ∧ (True ∧ ((z4 ≠ (0 : Int)) ∧ (True ∧ (True ∧ (True ∧ (True ∧ (∃ (y : Nat), (∃ (kp : z15), ((y < x) ∧ ((y ≤ z3) ∧ (viewAll kp [z10, z7, z6, (Prod.mk (7 : Nat) (D.v (Value.int IntKind.u64 (Int.tmod z1 z4)))), (Prod.mk (8 : Nat) (D.v (Value.int IntKind.i64 (IntKind.wrap IntKind.i64 (z0 - (1 : Int))))))] [(Option.some (Blk.mk (41 : Nat) (List.set z12 ((0 : Nat) + z5) (D.v (Value.int IntKind.u32 (IntKind.wrap IntKind.u32 (IntKind.wrap IntKind.u64 (Int.tdiv z1 z4)))))) Bool.true))] [z10, z7, z14, (Prod.mk (7 : Nat) (D.v (Value.int IntKind.u64 (((remT xs z3 d y) : Nat) : Int)))), (Prod.mk (8 : Nat) (D.v (Value.int IntKind.i64 (((y : Nat) : Int) - (1 : Int)))))] (d_blk (quoT xs d y))))))))))))))))))))))))))))))))) (∃ (r : Unit), (∃ (kp : z15), (True ∧ ((z11 = z11) ∧ (viewAll kp [z6, (Prod.mk (7 : Nat) (D.v (Value.int IntKind.u64 z13)))] [(Option.some (Blk.mk (41 : Nat) z12 Bool.true))] (Prod.fst (Prod.snd ((fun (x_1 : Unit) => z2) r))) (Prod.snd (Prod.snd ((fun (x_1 : Unit) => z2) r)))))))))))) (by kernel_rfl) ?_
  obtain ⟨hb, hz, hd, hd2⟩ := hpre
  simp only [true_and, and_true, and_self, IsInt_lit, IsBool_lit, IsStr_lit, Bool.not_eq_true', Bool.not_eq_false', Bool.not_true, Bool.not_false, Int.reduceLE, Int.reduceLT, Int.reduceNeg, Nat.le_refl, Int.le_refl, Nat.reduceLT, Nat.reduceLeDiff, Nat.reduceEqDiff, D.v.injEq, D.tup.injEq, D.agg.injEq, D.ro.injEq, List.cons.injEq, Value.int.injEq, Value.bool.injEq, pcond_true, pcond_false, NamelessL, Nameless, Nat.reduceMul, Nat.reduceAdd, Nat.zero_add, Int.toNat_natCast]
  refine pcond_intro (fun h => ?_) (fun h => ?_)
  · simp only [decide_eq_true_eq] at h
    obtain ⟨j, rfl⟩ : ∃ j, x = j + 1 := ⟨x - 1, by omega⟩
    have e : ((j + 1 : Nat) : Int) - 1 = (j : Int) := by omega
    have w : IntKind.i64.wrap ((j : Int) - 1) = (j : Int) - 1 := wrap_i64_of (by omega) (by omega)
    have hlen := quoT_length (d := d) hJ
    have hs := quoT_set (k := j) hz hd (by omega)
    have hr := remT_succ (zs := xs) (d := d) (show j < xs.length by omega)
    have hrl := remT_lt (zs := xs) (n := xs.length) (k := j + 1) hd
    have hq := quo_lt (n := xs.length) (k := j) hz hd
    have hx := hz.get j
    have e0 := or_shift (a := remT xs xs.length d (j + 1)) (b := xs.getD j 0) (by omega) hx
    have w1 : IntKind.u64.wrap ((d : Nat) : Int) = (d : Nat) := by rw [wrap_u64]; omega
    rw [show remT xs xs.length d (j + 1) * 4294967296 + xs.getD j 0 = xs.getD j 0 + 4294967296 * remT xs xs.length d (j + 1) by omega] at hs hr hq
    simp only [e, w, w1, e0, Int.toNat_natCast, Nat.mul_one, u32s_cell, u32s_length, hlen, u32s_isInt xs j (by omega), and_true]
    generalize hV : xs.getD j 0 + 4294967296 * remT xs xs.length d (j + 1) = v at *
    have hq2 : v / d < 4294967296 := by rw [Nat.div_lt_iff_lt_mul hd]; omega
    have g1 : IntKind.u32.wrap (IntKind.u64.wrap (((v : Nat) : Int).tdiv (d : Nat))) = ((v / d : Nat) : Int) := by
      rw [Int.tdiv_eq_ediv_of_nonneg (by omega), ← Int.natCast_ediv, wrap_u64, wrap_u32]; generalize v / d = q at *; omega
    have g2 : ((v : Nat) : Int).tmod (d : Nat) = ((v % d : Nat) : Int) := by
      rw [Int.tmod_eq_emod_of_nonneg (by omega), ← Int.natCast_emod]
    simp only [g1, g2, hr, u32s_put, hs]
    refine ⟨⟨by omega, by omega⟩, by omega, by omega, ⟨by omega, by omega⟩, by omega, by omega, j, [some 0], by omega, by omega, ?_⟩
    refine of_eq (B := letI z5 := List.length xs; letI z0 := (D.v (Value.int IntKind.u64 (((remT xs z5 d j) : Nat) : Int))); letI z1 := (D.sl (0 : Nat) (0 : Nat) z5 (Cap.toEnd (1 : Nat))); letI z7 := (u32s (quoT xs d j)); letI z2 := (Option.some (Blk.mk (41 : Nat) z7 Bool.true)); letI z3 := (D.v (Value.int IntKind.i64 (((j : Nat) : Int) - (1 : Int)))); letI z4 := (D.v (Value.int IntKind.u32 ((d : Nat) : Int))); letI z6 := ([] : List (Option Blk)); letI z8 := (D.ro z5 (u32s xs)); ((Bool.true = Bool.true) ∧ ((((z2 = z2) ∧ (NamelessL z7)) ∧ (z6 = z6)) ∧ ((True ∧ (z8 = z8)) ∧ ((True ∧ (z4 = z4)) ∧ ((True ∧ (z1 = z1)) ∧ ((True ∧ (z0 = z0)) ∧ ((True ∧ (z3 = z3)) ∧ True)))))))) (by kernel_rfl) ?_
    simp [u32s_nameless]
  · simp only [decide_eq_false_iff_not] at h
    have : x = 0 := by omega
    subst this
    refine ⟨(), [some 0], ?_⟩
    refine of_eq (B := letI z1 := List.length xs; letI z0 := (D.sl (0 : Nat) (0 : Nat) z1 (Cap.toEnd (1 : Nat))); letI z2 := (u32s (quoT xs d (0 : Nat))); letI z3 := ([] : List (Option Blk)); ((Bool.true = Bool.true) ∧ (((((Option.some (Blk.mk (41 : Nat) (u32s (dgn z1 ((nv xs) / d))) Bool.true)) = (Option.some (Blk.mk (41 : Nat) z2 Bool.true))) ∧ (NamelessL z2)) ∧ (z3 = z3)) ∧ ((True ∧ (z0 = z0)) ∧ ((True ∧ ((D.v (Value.int IntKind.u64 (((remT xs z1 d (0 : Nat)) : Nat) : Int))) = (D.v (Value.int IntKind.u64 ((((nv xs) % d) : Nat) : Int))))) ∧ True))))) (by kernel_rfl) ?_
    simp [u32s_nameless, quoT, remT]
theorem short_pure (xs : List Nat) (d : Int) (hpre : (xs.length ≤ 400000 ∧ Dig xs) ∧ 0 < d ∧ d < 4294967296) : PureJ Try.prog 98 [.ro xs.length (u32s xs), .v (.int .u32 d)] (.tup [.ro (dg (nv xs / d.toNat)).length (u32s (dg (nv xs / d.toNat))), .v (.int .u32 (nv xs % d.toNat : Nat))]) := by
  refine pureJ_of_vcp (call := (addPure 56 ent_trim noCalls)) (lp := fun k => bif Nat.beq k 4 then some (lp_shortLoop xs d.toNat) else none) (N := 10) T_ok mixed (addPure_ok ent_trim_ok noCalls_ok) Try.func98 rfl (by decide) (by kernel_rfl) (by kernel_rfl) (of_eq (B := LRuleP Try.prog Try.f98.ntmps (loopAt ((Try.f98.body).getD .skip) 4) (lp_shortLoop xs d.toNat) ∧ True) (by kernel_rfl) ⟨shortLoop_rule xs d.toNat ⟨hpre.1.1, hpre.1.2, by omega, by omega⟩, trivial⟩) (by (simp [NamelessL, Nameless, u32s_nameless]; done)) (by (simp [NamelessL, Nameless, u32s_nameless]; done)) ?_
  refine of_eq (B := letI z1 := List.length xs; letI z3 := ((nv xs) / (Int.toNat d)); letI z6 := (u32s (dgn z1 z3)); letI z0 := (List.take (z1 * (1 : Nat)) (List.drop (0 : Nat) z6)); letI z2 := ((z1 : Nat) : Int); letI z4 := (List.replicate (Int.toNat z2) (D.v (Value.int IntKind.u32 (0 : Int)))); letI z5 := ((((nv xs) % (Int.toNat d)) : Nat) : Int); letI z7 := ([] : List (Option Blk)); letI z8 := (List.length (unu z0)); letI z9 := (Cap.toEnd (1 : Nat)); letI z10 := (D.ro z1 (u32s xs)); (True ∧ (True ∧ (True ∧ (True ∧ ((((0 : Int) ≤ z2) ∧ ((z2 ≤ z2) ∧ ((((4 : Int) * z2) ≤ (281474976710656 : Int)) ∧ (z2 ≤ (9223372036854775807 : Int))))) ∧ (True ∧ (True ∧ (True ∧ (True ∧ (True ∧ (True ∧ ((z1 ≤ z1) ∧ (((Bool.true = Bool.true) ∧ (((((Option.some (Blk.mk (41 : Nat) (u32s (quoT xs (Int.toNat d) z1)) Bool.true)) = (Option.some (Blk.mk (41 : Nat) z4 Bool.true))) ∧ (NamelessL z4)) ∧ (z7 = z7)) ∧ ((True ∧ (z10 = z10)) ∧ ((True ∧ ((D.v (Value.int IntKind.u32 d)) = (D.v (Value.int IntKind.u32 (((Int.toNat d) : Nat) : Int))))) ∧ ((True ∧ ((D.sl (0 : Nat) (0 : Nat) (Int.toNat z2) z9) = (D.sl (0 : Nat) (0 : Nat) z1 z9))) ∧ ((True ∧ ((D.v (Value.int IntKind.u64 (0 : Int))) = (D.v (Value.int IntKind.u64 (((remT xs z1 (Int.toNat d) z1) : Nat) : Int))))) ∧ ((True ∧ ((D.v (Value.int IntKind.i64 (IntKind.wrap IntKind.i64 (z2 - (1 : Int))))) = (D.v (Value.int IntKind.i64 (z2 - (1 : Int)))))) ∧ True))))))) ∧ (Unit → (True → (True ∧ (((((NamelessL z6) ∧ (((0 : Nat) < (1 : Nat)) ∧ (((0 : Nat) + (z1 * (1 : Nat))) ≤ (List.length z6)))) ∧ True) ∧ (((z0 = (u32s (unu z0))) ∧ (z1 = z8)) ∧ (z8 ≤ (1000000 : Nat)))) ∧ (True ∧ (True ∧ (True ∧ (True ∧ (True ∧ ((True ∧ (True ∧ True)) ∧ ((D.tup [(D.ro (List.length (trimL (unu z0))) (u32s (trimL (unu z0)))), (D.v (Value.int IntKind.u32 (IntKind.wrap IntKind.u32 z5)))]) = (D.tup [(D.ro (List.length (dg z3)) (u32s (dg z3))), (D.v (Value.int IntKind.u32 z5))])))))))))))))))))))))))))) (by kernel_rfl) ?_
  simp only [true_and, and_true, and_self, IsInt_lit, IsBool_lit, IsStr_lit, Bool.not_eq_true', Bool.not_eq_false', Bool.not_true, Bool.not_false, Int.reduceLE, Int.reduceLT, Int.reduceNeg, Nat.le_refl, Int.le_refl, Nat.reduceLT, Nat.reduceLeDiff, Nat.reduceEqDiff, D.v.injEq, D.tup.injEq, D.agg.injEq, D.ro.injEq, List.cons.injEq, Value.int.injEq, Value.bool.injEq, pcond_true, pcond_false, NamelessL, Nameless, Nat.reduceMul, Nat.reduceAdd, Nat.zero_add, Int.toNat_natCast, unu_u32s]
  obtain ⟨⟨hb, hz⟩, hd0, hd1⟩ := hpre
  obtain ⟨d, rfl⟩ := Int.eq_ofNat_of_zero_le (show 0 ≤ d by omega)
  simp only [Int.toNat_natCast, Int.ofNat_eq_natCast]
  have hdl : (dgn xs.length (nv xs / d)).length = xs.length := dgn_length _ _
  have e0 : List.replicate xs.length (D.v (Value.int IntKind.u32 0)) = u32s (List.replicate xs.length 0) := u32s_replicate _ 0
  have e1 : quoT xs d xs.length = List.replicate xs.length 0 := by
    unfold quoT; rw [List.drop_of_length_le (by omega), List.append_nil]
  have e2 : remT xs xs.length d xs.length = 0 := (divT_start (Nat.le_refl _)).2
  have e3 : IntKind.i64.wrap ((xs.length : Int) - 1) = (xs.length : Int) - 1 := wrap_i64_of (by omega) (by omega)
  have e4 : List.take xs.length (u32s (dgn xs.length (nv xs / d))) = u32s (dgn xs.length (nv xs / d)) := by
    rw [u32s_take, List.take_of_length_le (by omega)]
  have hm : nv xs % d < d := Nat.mod_lt _ (by omega)
  have hq : nv xs / d < 4294967296 ^ xs.length := Nat.lt_of_le_of_lt (Nat.div_le_self _ _) (nv_lt hz)
  have ht := trimL_dgn hq
  simp only [e0, e1, e2, e3, e4, Nat.mul_one, List.drop_zero, unu_u32s, u32s_length, hdl, ht]
  refine ⟨⟨by omega, by omega, by omega⟩, ⟨⟨trivial, u32s_nameless _⟩, trivial, rfl, trivial⟩, fun _ _ => ⟨⟨⟨u32s_nameless _, by omega⟩, ⟨trivial, trivial⟩, by omega⟩, ⟨trivial, trivial⟩, ?_⟩⟩
  rw [wrap_u32]; omega
def ent_short : Ent := fun ds => match ds with
  | [.ro n_xs ys_xs, .v (.int .u32 d)] => some (.tup [.ro (dg (nv (unu ys_xs) / d.toNat)).length (u32s (dg (nv (unu ys_xs) / d.toNat))), .v (.int .u32 (nv (unu ys_xs) % d.toNat : Nat))], (ys_xs = u32s (unu ys_xs) ∧ n_xs = (unu ys_xs).length) ∧ ((unu ys_xs).length ≤ 400000 ∧ Dig (unu ys_xs)) ∧ 0 < d ∧ d < 4294967296)
  | _ => none
theorem ent_short_ok : EntOk Try.prog 98 ent_short := by
  intro ds d c h hc; unfold ent_short at h; split at h
  · rename_i n_xs ys_xs d; obtain ⟨rfl, rfl⟩ := pair_inj h
    obtain ⟨⟨h1, h2⟩, hc⟩ := hc; subst h2; generalize (unu ys_xs) = xs at *; subst h1
    exact short_pure xs _ hc
  · cases h
end Go.Proofs.Ythnhfkpihbjddaa
end
section
namespace Go.Proofs.Ythnhfkpihbjddaa
open Go.VD
set_option linter.unusedVariables false
set_option linter.unusedSimpArgs false
set_option maxRecDepth 100000
theorem and31 {a : Nat} (h : a < 4294967296) : Go.bits .and .u32 (a : Int) 2147483648 = if 2147483648 ≤ a then 2147483648 else 0 := by
  have := bits_and_u32_nat a 2147483648 h (by decide)
  rw [show (2147483648 : Int) = ((2147483648 : Nat) : Int) by rfl, this]
  have e : a &&& 2147483648 = if 2147483648 ≤ a then 2147483648 else 0 := by
    apply Nat.eq_of_testBit_eq
    intro i
    rw [Nat.testBit_and]
    have h2 : (2147483648 : Nat) = 2 ^ 31 := rfl
    by_cases hi : i = 31
    · subst hi
      rw [top32 a h]
      split
      · rename_i h3; simp [h3]
      · rename_i h3; simp [h3]
    · have h4 : Nat.testBit 2147483648 i = false := by
        rw [h2, Nat.testBit_two_pow]; simp; omega
      rw [h4]
      split <;> simp [h4]
  rw [e]; split <;> rfl
theorem top_shift {d x : Nat} (hd : d ≠ 0) (hd2 : d < 4294967296) (hx : x ≤ 32 - bl d) : d * 2 ^ x < 4294967296 ∧ (2147483648 ≤ d * 2 ^ x ↔ x = 32 - bl d) := by
  obtain ⟨b1, b2⟩ := bl_le hd
  have b3 := bl_lt d
  have b4 := bl32 hd2
  have hp : 0 < 2 ^ x := Nat.pow_pos (by decide)
  have u1 : d * 2 ^ x < 2 ^ (bl d + x) := by rw [Nat.pow_add]; exact Nat.mul_lt_mul_of_pos_right b3 hp
  refine ⟨Nat.lt_of_lt_of_le u1 (Nat.pow_le_pow_right (show 0 < 2 by decide) (show bl d + x ≤ 32 by omega)), fun h => ?_, fun h => ?_⟩
  · refine Classical.byContradiction fun hne => ?_
    have := Nat.pow_le_pow_right (show 0 < 2 by decide) (show bl d + x ≤ 31 by omega)
    omega
  · have h1 : 2 ^ (bl d - 1) * 2 ^ x ≤ d * 2 ^ x := Nat.mul_le_mul_right _ b2
    rw [← Nat.pow_add, show bl d - 1 + x = 31 by omega] at h1
    exact h1
def lp_gnormLoop (xs ys : List Nat) : LoopO := loopRule (α := Nat) (β := Unit) [] (fun n => n ≤ dsh ys) (fun n => [(0, .ro xs.length (u32s xs)), (1, .ro ys.length (u32s ys)), (8, .v (.int .i64 (n : Int)))]) (fun _ => []) (0) (fun _ => True) (fun _ => (.exit 0, [(0, .ro xs.length (u32s xs)), (1, .ro ys.length (u32s ys)), (8, .v (.int .i64 (dsh ys : Nat)))], []))
theorem gnormLoop_rule (xs ys : List Nat) (hpre : dHyp2 xs ys) : LRuleP Try.prog Try.f55.ntmps (loopAt ((Try.f55.body).getD .skip) 7) (lp_gnormLoop xs ys) := by
  refine lrule_of (α := Nat) (β := Unit) (call := noCalls) (lp := fun _ => none) (N := 10) T_ok mixed noCalls_ok (fun n => dsh ys - n) (by kernel_rfl) (LpAllP.none _) ?_
  intro x hJ
  refine of_eq (B := letI z8 := (((List.length ys) : Nat) : Int); letI z0 := (IntKind.wrap IntKind.i64 (z8 - (1 : Int))); letI z7 := (Exit.exit (0 : Nat)); letI z2 := (Prod.mk (0 : Nat) (D.ro (List.length xs) (u32s xs))); letI z3 := (Prod.mk (1 : Nat) (D.ro (List.length ys) (u32s ys))); letI z5 := ([] : List (Option Blk)); letI z1 := (Prod.mk z7 (Prod.mk [z2, z3, (Prod.mk (8 : Nat) (D.v (Value.int IntKind.i64 (((dsh ys) : Nat) : Int))))] z5)); letI z10 := ((Int.toNat z0) * (1 : Nat)); letI z4 := (List.getD (u32s ys) z10 (Inhabited.default)); letI z6 := ((x : Nat) : Int); letI z9 := IntKind.wrap IntKind.u64 z6; letI z11 := (List (Option Nat)); (True ∧ (True ∧ (True ∧ (True ∧ ((((0 : Int) ≤ z0) ∧ (z0 < z8)) ∧ (((z10 < (List.length (u32s ys))) ∧ (IsInt IntKind.u32 z4)) ∧ (True ∧ (True ∧ (((0 : Int) ≤ z9) ∧ (True ∧ (True ∧ (pcond ((bits BinOp.and IntKind.u32 (IntKind.wrap IntKind.u32 ((cellInt z4) * ((2 : Int) ^ (Min.min (Int.toNat z9) (32 : Nat))))) (2147483648 : Int)) == (0 : Int)) (True ∧ (True ∧ (True ∧ (∃ (y : Nat), (∃ (kp : z11), ((((dsh ys) - y) < ((dsh ys) - x)) ∧ ((y ≤ (dsh ys)) ∧ (viewAll kp [z2, z3, (Prod.mk (8 : Nat) (D.v (Value.int IntKind.i64 (IntKind.wrap IntKind.i64 (z6 + (1 : Int))))))] z5 [z2, z3, (Prod.mk (8 : Nat) (D.v (Value.int IntKind.i64 ((y : Nat) : Int))))] z5)))))))) (∃ (r : Unit), (∃ (kp : z11), (True ∧ ((z7 = z7) ∧ (viewAll kp [z2, z3, (Prod.mk (8 : Nat) (D.v (Value.int IntKind.i64 z6)))] z5 (Prod.fst (Prod.snd ((fun (x_1 : Unit) => z1) r))) (Prod.snd (Prod.snd ((fun (x_1 : Unit) => z1) r))))))))))))))))))))) (by kernel_rfl) ?_
  obtain ⟨⟨f1, f2⟩, ⟨f3, f4⟩, ⟨f5, f6⟩, f7, f8, dx, dy, dv⟩ := div_facts hpre
  obtain ⟨⟨⟨⟨hlx, hly⟩, gx, gy⟩, h0⟩, h2, hle⟩ := hpre
  have w1 : IntKind.i64.wrap ((ys.length : Int) - 1) = ((ys.length - 1 : Nat) : Int) := by rw [wrap_i64_of (by omega) (by omega)]; omega
  have w2 : IntKind.u64.wrap (x : Int) = (x : Int) := wrap_u64_of (by omega) (by omega)
  have w3 : IntKind.i64.wrap ((x : Int) + 1) = ((x + 1 : Nat) : Int) := by rw [wrap_i64_of (by omega) (by omega)]; omega
  simp only [true_and, and_true, and_self, IsInt_lit, IsBool_lit, IsStr_lit, Bool.not_eq_true', Bool.not_eq_false', Bool.not_true, Bool.not_false, Int.reduceLE, Int.reduceLT, Int.reduceNeg, Nat.le_refl, Int.le_refl, Nat.reduceLT, Nat.reduceLeDiff, Nat.reduceEqDiff, D.v.injEq, D.tup.injEq, D.agg.injEq, D.ro.injEq, List.cons.injEq, Value.int.injEq, Value.bool.injEq, pcond_true, pcond_false, NamelessL, Nameless, Nat.reduceMul, Nat.reduceAdd, Nat.zero_add, Int.toNat_natCast, w1, w2, w3, Nat.mul_one, Int.toNat_natCast, u32s_cell, u32s_length, show min x 32 = x by omega, u32s_isInt ys (ys.length - 1) (by omega), and_true]
  have htop : ys.getD (ys.length - 1) 0 ≠ 0 := by
    have := (last_dg (v := nv ys) (by omega)).2
    rwa [← gy] at this
  obtain ⟨t1, t2⟩ := top_shift htop (dy.get (ys.length - 1)) (show x ≤ 32 - bl (ys.getD (ys.length - 1) 0) from hJ)
  have hdef : 32 - bl (ys.getD (ys.length - 1) 0) = dsh ys := rfl
  rw [hdef] at t2
  have w4 : IntKind.u32.wrap (((ys.getD (ys.length - 1) 0 : Nat) : Int) * 2 ^ x) = ((ys.getD (ys.length - 1) 0 * 2 ^ x : Nat) : Int) := by
    have : ((ys.getD (ys.length - 1) 0 : Nat) : Int) * 2 ^ x = ((ys.getD (ys.length - 1) 0 * 2 ^ x : Nat) : Int) := by simp
    rw [this, wrap_u32_of (by omega) (by omega)]
  rw [w4, and31 t1]
  refine ⟨⟨by omega, by omega⟩, by omega, by omega, pcond_intro (fun h => ⟨x + 1, [], ?_⟩) (fun h => ⟨(), [], ?_⟩)⟩
  · have hne : x ≠ dsh ys := fun e => by
      rw [if_pos (t2.2 e)] at h; simp at h
    refine ⟨by omega, by omega, ?_⟩
    refine of_eq (B := letI z0 := (D.v (Value.int IntKind.i64 (((x + (1 : Nat)) : Nat) : Int))); letI z1 := (D.ro (List.length xs) (u32s xs)); letI z2 := (D.ro (List.length ys) (u32s ys)); letI z3 := ([] : List (Option Blk)); ((Bool.true = Bool.true) ∧ ((z3 = z3) ∧ ((True ∧ (z1 = z1)) ∧ ((True ∧ (z2 = z2)) ∧ ((True ∧ (z0 = z0)) ∧ True)))))) (by kernel_rfl) ?_
    simp
  · have he : x = dsh ys := by
      refine Classical.byContradiction fun hne => ?_
      rw [if_neg (fun h' => hne (t2.1 h'))] at h; simp at h
    subst he
    refine of_eq (B := letI z0 := (D.v (Value.int IntKind.i64 (((dsh ys) : Nat) : Int))); letI z1 := (D.ro (List.length xs) (u32s xs)); letI z2 := (D.ro (List.length ys) (u32s ys)); letI z3 := ([] : List (Option Blk)); ((Bool.true = Bool.true) ∧ ((z3 = z3) ∧ ((True ∧ (z1 = z1)) ∧ ((True ∧ (z2 = z2)) ∧ ((True ∧ (z0 = z0)) ∧ True)))))) (by kernel_rfl) ?_
    simp
theorem tk_take {us X : List Nat} {n j R : Nat} (h : j ≤ us.length) : (us.take j ++ (dgn n R ++ X)).take (j + n) = us.take j ++ dgn n R := by
  rw [← List.append_assoc]
  exact List.take_left' (by simp [dgn_length]; omega)
theorem tk_take1 {us X : List Nat} {n j R : Nat} (h : j ≤ us.length) : (us.take j ++ (dgn (n + 1) R ++ X)).take (j + n) = us.take j ++ dgn n R := by
  rw [dgn_add, List.append_assoc, tk_take h]
def lp_gdivLoop (xs ys : List Nat) : LoopO := loopRule (α := Nat × List Nat × List Nat) (β := List Nat × List Nat) [some 0, some 2] (fun s => (s.1 ≤ dM xs ys ∧ s.2.1.length = xs.length + 1 ∧ Dig s.2.1) ∧ s.2.1.take (s.1 + ys.length) = (dU0 xs ys).take s.1 ++ dgn ys.length (nv xs * 2 ^ dsh ys / 4294967296 ^ s.1 % nv (dvs ys)) ∧ s.2.2 = List.replicate s.1 0 ++ dgn (dM xs ys - s.1) (nv xs * 2 ^ dsh ys / 4294967296 ^ s.1 / nv (dvs ys))) (fun s => [(8, .v (.int .i64 (dsh ys : Nat))), (9, .sl 0 0 (xs.length + 1) (.toEnd 1)), (10, .ro (dvs ys).length (u32s (dvs ys))), (11, .sl 1 0 (dM xs ys) (.toEnd 1)), (12, .v (.int .i64 ((s.1 : Int) - 1)))]) (fun s => [some ⟨41, u32s s.2.1, true⟩, some ⟨41, u32s s.2.2, true⟩]) ((dM xs ys, dU0 xs ys, List.replicate (dM xs ys) 0)) (fun r => (r.1.length = xs.length + 1 ∧ Dig r.1 ∧ r.1.take ys.length = dgn ys.length (nv xs * 2 ^ dsh ys % nv (dvs ys))) ∧ r.2 = dgn (dM xs ys) (nv xs * 2 ^ dsh ys / nv (dvs ys))) (fun r => (.exit 2, [(8, .v (.int .i64 (dsh ys : Nat))), (9, .sl 0 0 (xs.length + 1) (.toEnd 1)), (10, .ro (dvs ys).length (u32s (dvs ys))), (11, .sl 1 0 (dM xs ys) (.toEnd 1))], [some ⟨41, u32s r.1, true⟩, some ⟨41, u32s r.2, true⟩]))
theorem gdivLoop_rule (xs ys : List Nat) (hpre : dHyp2 xs ys) : LRuleP Try.prog Try.f55.ntmps (loopAt ((Try.f55.body).getD .skip) 12) (lp_gdivLoop xs ys) := by
  refine lrule_of (α := Nat × List Nat × List Nat) (β := List Nat × List Nat) (call := (addQ 100 entq_guess (addPure 101 ent_gless (addMut 102 entm_gtake noCalls)))) (lp := fun _ => none) (N := 10) T_ok mixed (addQ_ok entq_guess_ok (addPure_ok ent_gless_ok (addMut_ok entm_gtake_ok noCalls_ok))) (fun s => s.1) (by kernel_rfl) (LpAllP.none _) ?_
  intro x hJ
  refine of_eq (B := letI z1 := ((((Prod.fst x) : Nat) : Int) - (1 : Int)); letI z15 := (List.length (dvs ys)); letI z37 := ((z15 : Nat) : Int); letI z0 := (IntKind.wrap IntKind.i64 (z1 + z37)); letI z2 := (u32s (Prod.fst (Prod.snd x))); letI z12 := ((List.length xs) + (1 : Nat)); letI z32 := (z12 - (Int.toNat z1)); letI z13 := ((0 : Nat) + ((Int.toNat z1) * (1 : Nat))); letI z3 := (List.take (z32 * (1 : Nat)) (List.drop z13 z2)); letI z11 := (u32s (dvs ys)); letI z19 := (IntKind.wrap IntKind.i64 (z37 - (1 : Int))); letI z50 := ((Int.toNat z19) * (1 : Nat)); letI z4 := (List.getD z11 z50 (Inhabited.default)); letI z20 := (IntKind.wrap IntKind.i64 (z0 - (1 : Int))); letI z30 := ((0 : Nat) + ((Int.toNat z20) * (1 : Nat))); letI z48 := (List.getD z2 z30 (Inhabited.default)); letI z5 := (IntKind.wrap IntKind.u64 (cellInt z48)); letI z55 := (Cap.toEnd (1 : Nat)); letI z6 := (Prod.mk (9 : Nat) (D.sl (0 : Nat) (0 : Nat) z12 z55)); letI z7 := (Prod.mk (11 : Nat) (D.sl (1 : Nat) (0 : Nat) (dM xs ys) z55)); letI z8 := (IntKind.wrap IntKind.i64 (z37 - (2 : Int))); letI z31 := ((0 : Nat) + ((Int.toNat z0) * (1 : Nat))); letI z47 := (List.getD z2 z31 (Inhabited.default)); letI z9 := (IntKind.wrap IntKind.u64 (cellInt z47)); letI z10 := (Prod.mk (8 : Nat) (D.v (Value.int IntKind.i64 (((dsh ys) : Nat) : Int)))); letI z24 := (IntKind.wrap IntKind.i64 (z0 - (2 : Int))); letI z43 := ((0 : Nat) + ((Int.toNat z24) * (1 : Nat))); letI z14 := (List.getD z2 z43 (Inhabited.default)); letI z41 := ((z12 : Nat) : Int); letI z54 := ((1 : Nat) = (1 : Nat)); letI z16 := (((((0 : Int) ≤ z1) ∧ (z1 ≤ z41)) ∧ (True ∧ True)) ∧ z54); letI z51 := ((Int.toNat z8) * (1 : Nat)); letI z38 := (List.getD z11 z51 (Inhabited.default)); letI z17 := (IntKind.wrap IntKind.u64 (cellInt z38)); letI z18 := (Prod.mk (10 : Nat) (D.ro z15 z11)); letI z21 := ((nv xs) * ((2 : Nat) ^ (dsh ys))); letI z22 := (IntKind.wrap IntKind.u64 (cellInt z4)); letI z23 := (List.length (unu z11)); letI z53 := Bool.true = Bool.true; letI z52 := (z11 = (u32s (unu z11))); letI z25 := ((((41 : Nat) = (41 : Nat)) ∧ z53) ∧ ((z2 = (u32s (unu z2))) ∧ z52)); letI z26 := (u32s (Prod.snd (Prod.snd x))); letI z27 := (4294967296 : Int); letI z28 := (Prod (List Nat) (List Nat)); letI z29 := (Prod.mk (12 : Nat) (D.v (Value.int IntKind.i64 (IntKind.wrap IntKind.i64 (z1 - (1 : Int)))))); letI z33 := (4294967296 : Nat); letI z34 := (IntKind.wrap IntKind.u64 (cellInt z14)); letI z35 := (z54 ∧ ((z13 + (1 : Nat)) ≤ (List.length z26))); letI z36 := List.length ys; letI z39 := (((0 : Int) ≤ z1) ∧ (z1 < (((dM xs ys) : Nat) : Int))); letI z40 := (Exit.exit (2 : Nat)); letI z42 := (z23 + (1 : Nat)); letI z44 := List.length z2; letI z45 := (((Int.toNat z9) * z33) + (Int.toNat z5)); letI z46 := (List.length (unu z3)); letI z49 := (List (Option Nat)); (True ∧ (True ∧ (pcond (Decidable.decide ((0 : Int) ≤ z1)) (True ∧ (True ∧ (True ∧ (True ∧ (True ∧ ((((0 : Int) ≤ z0) ∧ (z0 < z41)) ∧ (((z31 < z44) ∧ (IsInt IntKind.u32 z47)) ∧ (True ∧ (True ∧ (True ∧ (True ∧ (True ∧ (True ∧ (True ∧ ((((0 : Int) ≤ z20) ∧ (z20 < z41)) ∧ (((z30 < z44) ∧ (IsInt IntKind.u32 z48)) ∧ (True ∧ (True ∧ (True ∧ (True ∧ (True ∧ (True ∧ (True ∧ ((((0 : Int) ≤ z24) ∧ (z24 < z41)) ∧ (((z43 < z44) ∧ (IsInt IntKind.u32 z14)) ∧ (True ∧ (True ∧ (True ∧ (True ∧ (True ∧ ((((0 : Int) ≤ z19) ∧ (z19 < z37)) ∧ (((z50 < (List.length z11)) ∧ (IsInt IntKind.u32 z4)) ∧ (True ∧ (True ∧ (True ∧ (True ∧ (True ∧ ((((0 : Int) ≤ z8) ∧ (z8 < z37)) ∧ (((z51 < (List.length z11)) ∧ (IsInt IntKind.u32 z38)) ∧ (True ∧ (((((((0 : Int) ≤ z9) ∧ (z9 < z27)) ∧ (((0 : Int) ≤ z5) ∧ (z5 < z27))) ∧ (((0 : Int) ≤ z34) ∧ (z34 < z27))) ∧ ((((0 : Int) < z22) ∧ (z22 < z27)) ∧ ((((0 : Int) ≤ z17) ∧ (z17 < z27)) ∧ (((z9 * z27) + z5) < ((z22 * z27) + z27))))) ∧ (∀ (g : Int), ((g = (((gF z45 (Int.toNat z22) (Int.toNat z17) (Int.toNat z34) (z45 / (Int.toNat z22))) : Nat) : Int)) → (True ∧ (z53 ∧ (True ∧ (True ∧ (z16 ∧ (True ∧ (True ∧ (((((NamelessL z2) ∧ (((0 : Nat) < (1 : Nat)) ∧ ((z13 + (z32 * (1 : Nat))) ≤ z44))) ∧ (True ∧ (True ∧ True))) ∧ ((z52 ∧ (z15 = z23)) ∧ (((z3 = (u32s (unu z3))) ∧ (z32 = z46)) ∧ ((((z46 ≤ (200000 : Nat)) ∧ (z23 ≤ (100000 : Nat))) ∧ (z42 ≤ z46)) ∧ (((Dig (unu z3)) ∧ (Dig (unu z11))) ∧ (((0 : Int) ≤ g) ∧ (g < (18446744073709551616 : Int)))))))) ∧ (pcond (Decidable.decide ((nv (List.take z42 (unu z3))) < ((nv (unu z11)) * (Int.toNat g)))) (True ∧ (True ∧ (True ∧ (True ∧ (True ∧ (z16 ∧ (True ∧ (True ∧ ((z25 ∧ ((z15 = z23) ∧ (((0 : Int) ≤ (IntKind.wrap IntKind.u64 (g - (1 : Int)))) ∧ (tkHyp z13 z32 (unu z2) (unu z11) (Int.toNat (IntKind.wrap IntKind.u64 (g - (1 : Int)))))))) ∧ (True ∧ (True ∧ (True ∧ (True ∧ (z39 ∧ (z35 ∧ (True ∧ (True ∧ (True ∧ (∃ (y : (Prod Nat z28)), (∃ (kp : z49), (((Prod.fst y) < (Prod.fst x)) ∧ (((((Prod.fst y) ≤ (dM xs ys)) ∧ (((List.length (Prod.fst (Prod.snd y))) = z12) ∧ (Dig (Prod.fst (Prod.snd y))))) ∧ (((List.take ((Prod.fst y) + z36) (Prod.fst (Prod.snd y))) = ((List.take (Prod.fst y) (dU0 xs ys)) ++ (dgn z36 ((z21 / (z33 ^ (Prod.fst y))) % (nv (dvs ys)))))) ∧ ((Prod.snd (Prod.snd y)) = ((List.replicate (Prod.fst y) (0 : Nat)) ++ (dgn ((dM xs ys) - (Prod.fst y)) ((z21 / (z33 ^ (Prod.fst y))) / (nv (dvs ys)))))))) ∧ (viewAll kp [z10, z6, z18, z7, z29] [(Option.some (Blk.mk (41 : Nat) (u32s (tkT z13 (unu z2) (unu z11) (Int.toNat (IntKind.wrap IntKind.u64 (g - (1 : Int)))) z42)) Bool.true)), (Option.some (Blk.mk (41 : Nat) (List.set z26 z13 (D.v (Value.int IntKind.u32 (IntKind.wrap IntKind.u32 (IntKind.wrap IntKind.u64 (g - (1 : Int))))))) Bool.true))] [z10, z6, z18, z7, (Prod.mk (12 : Nat) (D.v (Value.int IntKind.i64 ((((Prod.fst y) : Nat) : Int) - (1 : Int)))))] [(Option.some (Blk.mk (41 : TypeId) (u32s (Prod.fst (Prod.snd y))) Bool.true)), (Option.some (Blk.mk (41 : TypeId) (u32s (Prod.snd (Prod.snd y))) Bool.true))]))))))))))))))))))))))) (True ∧ (True ∧ (z16 ∧ (True ∧ (True ∧ ((z25 ∧ ((z15 = z23) ∧ (((0 : Int) ≤ g) ∧ (tkHyp z13 z32 (unu z2) (unu z11) (Int.toNat g))))) ∧ (True ∧ (True ∧ (True ∧ (True ∧ (z39 ∧ (z35 ∧ (True ∧ (True ∧ (True ∧ (∃ (y : (Prod Nat z28)), (∃ (kp : z49), (((Prod.fst y) < (Prod.fst x)) ∧ (((((Prod.fst y) ≤ (dM xs ys)) ∧ (((List.length (Prod.fst (Prod.snd y))) = z12) ∧ (Dig (Prod.fst (Prod.snd y))))) ∧ (((List.take ((Prod.fst y) + z36) (Prod.fst (Prod.snd y))) = ((List.take (Prod.fst y) (dU0 xs ys)) ++ (dgn z36 ((z21 / (z33 ^ (Prod.fst y))) % (nv (dvs ys)))))) ∧ ((Prod.snd (Prod.snd y)) = ((List.replicate (Prod.fst y) (0 : Nat)) ++ (dgn ((dM xs ys) - (Prod.fst y)) ((z21 / (z33 ^ (Prod.fst y))) / (nv (dvs ys)))))))) ∧ (viewAll kp [z10, z6, z18, z7, z29] [(Option.some (Blk.mk (41 : Nat) (u32s (tkT z13 (unu z2) (unu z11) (Int.toNat g) z42)) Bool.true)), (Option.some (Blk.mk (41 : Nat) (List.set z26 z13 (D.v (Value.int IntKind.u32 (IntKind.wrap IntKind.u32 g)))) Bool.true))] [z10, z6, z18, z7, (Prod.mk (12 : Nat) (D.v (Value.int IntKind.i64 ((((Prod.fst y) : Nat) : Int) - (1 : Int)))))] [(Option.some (Blk.mk (41 : TypeId) (u32s (Prod.fst (Prod.snd y))) Bool.true)), (Option.some (Blk.mk (41 : TypeId) (u32s (Prod.snd (Prod.snd y))) Bool.true))])))))))))))))))))))))))))))))))))))))))))))))))))))))))))))))))))))))))) (∃ (r : z28), (∃ (kp : z49), (((((List.length (Prod.fst r)) = z12) ∧ ((Dig (Prod.fst r)) ∧ ((List.take z36 (Prod.fst r)) = (dgn z36 (z21 % (nv (dvs ys))))))) ∧ ((Prod.snd r) = (dgn (dM xs ys) (z21 / (nv (dvs ys)))))) ∧ ((z40 = z40) ∧ (viewAll kp [z10, z6, z18, z7] [(Option.some (Blk.mk (41 : Nat) z2 Bool.true)), (Option.some (Blk.mk (41 : Nat) z26 Bool.true))] (Prod.fst (Prod.snd ((fun (r_1 : z28) => (Prod.mk z40 (Prod.mk [z10, z6, z18, z7] [(Option.some (Blk.mk (41 : TypeId) (u32s (Prod.fst r_1)) Bool.true)), (Option.some (Blk.mk (41 : TypeId) (u32s (Prod.snd r_1)) Bool.true))]))) r))) (Prod.snd (Prod.snd ((fun (r_1 : z28) => (Prod.mk z40 (Prod.mk [z10, z6, z18, z7] [(Option.some (Blk.mk (41 : TypeId) (u32s (Prod.fst r_1)) Bool.true)), (Option.some (Blk.mk (41 : TypeId) (u32s (Prod.snd r_1)) Bool.true))]))) r)))))))))))) (by kernel_rfl) ?_
  obtain ⟨k, us, qs⟩ := x
  obtain ⟨⟨f1, f2⟩, ⟨f3, f4⟩, ⟨f5, f6⟩, f7, f8, dx, dy, dv⟩ := div_facts hpre
  obtain ⟨⟨⟨⟨hlx, hly⟩, gx, gy⟩, h0⟩, h2, hle⟩ := hpre
  simp only at hJ
  obtain ⟨⟨hk, hul, hud⟩, ht, hq⟩ := hJ
  simp only [true_and, and_true, and_self, IsInt_lit, IsBool_lit, IsStr_lit, Bool.not_eq_true', Bool.not_eq_false', Bool.not_true, Bool.not_false, Int.reduceLE, Int.reduceLT, Int.reduceNeg, Nat.le_refl, Int.le_refl, Nat.reduceLT, Nat.reduceLeDiff, Nat.reduceEqDiff, D.v.injEq, D.tup.injEq, D.agg.injEq, D.ro.injEq, List.cons.injEq, Value.int.injEq, Value.bool.injEq, pcond_true, pcond_false, NamelessL, Nameless, Nat.reduceMul, Nat.reduceAdd, Nat.zero_add, Int.toNat_natCast, unu_u32s, Nat.mul_one]
  refine pcond_intro (fun h => ?_) (fun h => ?_)
  · simp only [decide_eq_true_eq] at h
    obtain ⟨j, rfl⟩ : ∃ j, k = j + 1 := ⟨k - 1, by omega⟩
    have e0 : ((j + 1 : Nat) : Int) - 1 = (j : Int) := by omega
    obtain ⟨g1, g2, g3, g4⟩ := div_round (U0 := dU0 xs ys) (X := nv xs * 2 ^ dsh ys) rfl hul hud (show j + 1 + ys.length ≤ xs.length + 1 by omega) f4 f5 ht
    have hT := f2
    have f3' := f3
    rw [f2] at f3'
    have w1 : IntKind.i64.wrap ((j : Int) + (ys.length : Int)) = ((j + ys.length : Nat) : Int) := by rw [wrap_i64_of (by omega) (by omega)]; omega
    have w2 : IntKind.i64.wrap (((j + ys.length : Nat) : Int) - 1) = ((j + (ys.length - 1) : Nat) : Int) := by rw [wrap_i64_of (by omega) (by omega)]; omega
    have w3 : IntKind.i64.wrap (((j + ys.length : Nat) : Int) - 2) = ((j + (ys.length - 2) : Nat) : Int) := by rw [wrap_i64_of (by omega) (by omega)]; omega
    have w4 : IntKind.i64.wrap ((ys.length : Int) - 1) = ((ys.length - 1 : Nat) : Int) := by rw [wrap_i64_of (by omega) (by omega)]; omega
    have w5 : IntKind.i64.wrap ((ys.length : Int) - 2) = ((ys.length - 2 : Nat) : Int) := by rw [wrap_i64_of (by omega) (by omega)]; omega
    have w6 : IntKind.i64.wrap ((j : Int) - 1) = (j : Int) - 1 := wrap_i64_of (by omega) (by omega)
    have w64 : ∀ a : Nat, a < 4294967296 → IntKind.u64.wrap (a : Int) = (a : Int) := fun a h => wrap_u64_of (by omega) (by omega)
    obtain ⟨hV, hVl, hUe, hUl, hTd, hu0, hv2, hv1, hV0⟩ := guess_facts (off := j) (zs := us) (ys := dvs ys) (by omega) (by omega) hud dv f3 (by rw [f2]; exact g1)
    rw [f2] at hV hVl hUe hUl hTd hu0 hv2 hv1
    have du0 := hud.get (j + ys.length)
    have du1 := hud.get (j + (ys.length - 1))
    have hseg : List.take (xs.length + 1 - j) (List.drop j (u32s us)) = u32s ((us.drop j).take (xs.length + 1 - j)) := by rw [u32s_drop, u32s_take]
    have hsl : ((us.drop j).take (xs.length + 1 - j)).length = xs.length + 1 - j := by simp; omega
    have hst : List.take (ys.length + 1) ((us.drop j).take (xs.length + 1 - j)) = (us.drop j).take (ys.length + 1) := by rw [List.take_take, Nat.min_eq_left (by omega)]
    have hTT : us.getD (j + ys.length) 0 * 4294967296 + us.getD (j + (ys.length - 1)) 0 = topD j us ys.length := rfl
    simp only [e0, Int.toNat_natCast, f2, u32s_length, w1, w2, w3, w4, w5, w6, u32s_cell, w64 _ du0, w64 _ du1, w64 _ hu0, w64 _ hv1, w64 _ hv2, hseg, unu_u32s, hsl, hst,
      u32s_isInt us (j + ys.length) (by omega), u32s_isInt us (j + (ys.length - 1)) (by omega), u32s_isInt us (j + (ys.length - 2)) (by omega), u32s_isInt (dvs ys) (ys.length - 1) (by omega), u32s_isInt (dvs ys) (ys.length - 2) (by omega), and_true]
    refine ⟨⟨by omega, by omega⟩, by omega, ⟨by omega, by omega⟩, by omega, ⟨by omega, by omega⟩, by omega, ⟨by omega, by omega⟩, by omega, ⟨by omega, by omega⟩, by omega, ⟨⟨⟨⟨by omega, by omega⟩, by omega, by omega⟩, by omega, by omega⟩, ⟨by omega, by omega⟩, ⟨by omega, by omega⟩, ?_⟩, ?_⟩
    · have := hTd
      rw [← hTT] at this
      omega
    have hdmT := Nat.div_add_mod (topD j us ys.length) ((dvs ys).getD (ys.length - 1) 0)
    have hmlT := Nat.mod_lt (topD j us ys.length) (show 0 < (dvs ys).getD (ys.length - 1) 0 by omega)
    obtain ⟨q1, q2, q3⟩ := gF_spec hV hVl hUe hUl hTd hu0 hv2 (by omega) hV0 g1 (topD j us ys.length / (dvs ys).getD (ys.length - 1) 0) (guess_init hV hUe hUl hu0 (by omega) hV0) (by rw [Nat.mul_comm]; omega) (by rw [Nat.mul_comm]; omega)
    intro g hg
    rw [hTT] at hg
    generalize hG : gF (topD j us ys.length) ((dvs ys).getD (ys.length - 1) 0) ((dvs ys).getD (ys.length - 2) 0) (us.getD (j + (ys.length - 2)) 0) (topD j us ys.length / (dvs ys).getD (ys.length - 1) 0) = G at *
    subst hg
    have hqB : uS j us (ys.length + 1) / nv (dvs ys) < 4294967296 := by rw [Nat.div_lt_iff_lt_mul f4]; exact g1
    have hqV : nv (dvs ys) * (uS j us (ys.length + 1) / nv (dvs ys)) ≤ uS j us (ys.length + 1) := Nat.mul_div_le _ _
    have hql : qs.length = dM xs ys := by rw [hq]; simp [dgn_length]; omega
    have htk : tkHyp j (xs.length + 1 - j) us (dvs ys) (uS j us (ys.length + 1) / nv (dvs ys)) := ⟨⟨⟨by omega, by omega⟩, by omega⟩, ⟨hud, dv⟩, hqB, by rw [f2]; exact hqV⟩
    have hR : tkR j us (dvs ys) (uS j us (ys.length + 1) / nv (dvs ys)) = uS j us (ys.length + 1) % nv (dvs ys) := by
      unfold tkR
      rw [f2]
      have := Nat.div_add_mod (uS j us (ys.length + 1)) (nv (dvs ys))
      omega
    have fin : ∃ (y : Nat × List Nat × List Nat) (kp : List (Option Nat)), y.1 < j + 1 ∧ ((y.1 ≤ dM xs ys ∧ y.2.1.length = xs.length + 1 ∧ Dig y.2.1) ∧ List.take (y.1 + ys.length) y.2.1 = List.take y.1 (dU0 xs ys) ++ dgn ys.length (nv xs * 2 ^ dsh ys / 4294967296 ^ y.1 % nv (dvs ys)) ∧ y.2.2 = List.replicate y.1 0 ++ dgn (dM xs ys - y.1) (nv xs * 2 ^ dsh ys / 4294967296 ^ y.1 / nv (dvs ys))) ∧
        viewAll kp [(8, D.v (Value.int IntKind.i64 ((dsh ys : Nat) : Int))), (9, D.sl 0 0 (xs.length + 1) (Cap.toEnd 1)), (10, D.ro ys.length (u32s (dvs ys))), (11, D.sl 1 0 (dM xs ys) (Cap.toEnd 1)), (12, D.v (Value.int IntKind.i64 ((j : Int) - 1)))]
          [some { ty := 41, cs := u32s (tkT j us (dvs ys) (uS j us (ys.length + 1) / nv (dvs ys)) (ys.length + 1)), full := true }, some { ty := 41, cs := u32s (qs.set j (uS j us (ys.length + 1) / nv (dvs ys))), full := true }]
          [(8, D.v (Value.int IntKind.i64 ((dsh ys : Nat) : Int))), (9, D.sl 0 0 (xs.length + 1) (Cap.toEnd 1)), (10, D.ro ys.length (u32s (dvs ys))), (11, D.sl 1 0 (dM xs ys) (Cap.toEnd 1)), (12, D.v (Value.int IntKind.i64 ((y.1 : Int) - 1)))]
          [some { ty := 41, cs := u32s y.2.1, full := true }, some { ty := 41, cs := u32s y.2.2, full := true }] := by
      refine ⟨(j, tkT j us (dvs ys) (uS j us (ys.length + 1) / nv (dvs ys)) (ys.length + 1), qs.set j (uS j us (ys.length + 1) / nv (dvs ys))), [some 0, some 1], by simp only; omega, ⟨⟨by simp only; omega, ?_, ?_⟩, ?_, ?_⟩, ?_⟩
      · simp only; rw [tkT_length (by omega)]; exact hul
      · exact Dig.app.2 ⟨hud.take _, Dig.app.2 ⟨dgn_dig _ _, hud.drop _⟩⟩
      · simp only
        rw [tk_take (X := us.drop (j + ys.length)) (show j ≤ us.length by omega)] at g4
        unfold tkT
        rw [hR, tk_take1 (show j ≤ us.length by omega)]
        exact g4
      · simp only
        have hd1 : nv xs * 2 ^ dsh ys / 4294967296 ^ (j + 1) / nv (dvs ys) = nv xs * 2 ^ dsh ys / 4294967296 ^ j / nv (dvs ys) / 4294967296 := by
          rw [div_pow_succ, Nat.div_div_eq_div_mul, Nat.div_div_eq_div_mul (nv xs * 2 ^ dsh ys / 4294967296 ^ j), Nat.mul_comm 4294967296]
        rw [hq, hd1, ← g2, q_round, show dM xs ys - (j + 1) + 1 = dM xs ys - j by omega]
      · refine of_eq (B := letI z8 := List.length ys; letI z0 := ((uS j us (z8 + (1 : Nat))) / (nv (dvs ys))); letI z1 := (u32s (tkT j us (dvs ys) z0 (z8 + (1 : Nat)))); letI z12 := (Cap.toEnd (1 : Nat)); letI z2 := (D.sl (0 : Nat) (0 : Nat) ((List.length xs) + (1 : Nat)) z12); letI z9 := (u32s (List.set qs j z0)); letI z3 := (Option.some (Blk.mk (41 : Nat) z9 Bool.true)); letI z4 := (D.v (Value.int IntKind.i64 (((j : Nat) : Int) - (1 : Int)))); letI z5 := (D.sl (1 : Nat) (0 : Nat) (dM xs ys) z12); letI z6 := (D.v (Value.int IntKind.i64 (((dsh ys) : Nat) : Int))); letI z7 := (Option.some (Blk.mk (41 : Nat) z1 Bool.true)); letI z10 := (D.ro z8 (u32s (dvs ys))); letI z11 := ([] : List (Option Blk)); ((Bool.true = Bool.true) ∧ ((((z7 = z7) ∧ (NamelessL z1)) ∧ (((z3 = z3) ∧ (NamelessL z9)) ∧ (z11 = z11))) ∧ ((True ∧ (z6 = z6)) ∧ ((True ∧ (z2 = z2)) ∧ ((True ∧ (z10 = z10)) ∧ ((True ∧ (z5 = z5)) ∧ ((True ∧ (z4 = z4)) ∧ True)))))))) (by kernel_rfl) ?_
        simp [u32s_nameless]
    have hnu : nv ((us.drop j).take (ys.length + 1)) = uS j us (ys.length + 1) := rfl
    rw [Int.toNat_natCast, hnu]
    have hddm := Nat.div_add_mod (uS j us (ys.length + 1)) (nv (dvs ys))
    have hmm := Nat.mod_lt (uS j us (ys.length + 1)) f4
    refine ⟨⟨by omega, by omega⟩, ⟨⟨u32s_nameless _, by omega⟩, trivial, ⟨⟨by omega, by omega⟩, by omega⟩, ⟨(hud.drop _).take _, dv⟩, Int.natCast_nonneg _, by omega⟩, pcond_intro (fun h5 => ?_) (fun h5 => ?_)⟩
    · simp only [decide_eq_true_eq] at h5
      have hG1 : G = uS j us (ys.length + 1) / nv (dvs ys) + 1 := by
        refine Nat.le_antisymm q3 (Nat.lt_of_not_le fun hle2 => ?_)
        have := Nat.mul_le_mul_left (nv (dvs ys)) hle2
        omega
      have w7 : IntKind.u64.wrap ((G : Int) - 1) = ((uS j us (ys.length + 1) / nv (dvs ys) : Nat) : Int) := by
        rw [hG1]
        generalize uS j us (ys.length + 1) / nv (dvs ys) = q at *
        rw [wrap_u64_of (by omega) (by omega)]; omega
      rw [w7, Int.toNat_natCast]
      have w8 : IntKind.u32.wrap ((uS j us (ys.length + 1) / nv (dvs ys) : Nat) : Int) = ((uS j us (ys.length + 1) / nv (dvs ys) : Nat) : Int) := wrap_u32_of (Int.natCast_nonneg _) (by
        generalize uS j us (ys.length + 1) / nv (dvs ys) = q at *
        omega)
      rw [w8, u32s_put]
      exact ⟨⟨by omega, by omega⟩, ⟨Int.natCast_nonneg _, htk⟩, ⟨by omega, by omega⟩, by omega, fin⟩
    · simp only [decide_eq_false_iff_not] at h5
      have hG1 : G = uS j us (ys.length + 1) / nv (dvs ys) := by
        refine Nat.le_antisymm ?_ q2
        rw [Nat.le_div_iff_mul_le f4, Nat.mul_comm]
        omega
      subst hG1
      have w8 : IntKind.u32.wrap ((uS j us (ys.length + 1) / nv (dvs ys) : Nat) : Int) = ((uS j us (ys.length + 1) / nv (dvs ys) : Nat) : Int) := wrap_u32_of (Int.natCast_nonneg _) (by
        generalize uS j us (ys.length + 1) / nv (dvs ys) = q at *
        omega)
      rw [w8, u32s_put]
      exact ⟨⟨by omega, by omega⟩, ⟨Int.natCast_nonneg _, htk⟩, ⟨by omega, by omega⟩, by omega, fin⟩
  · simp only [decide_eq_false_iff_not] at h
    have hk0 : k = 0 := by omega
    subst hk0
    simp only [Nat.zero_add, List.take_zero, List.nil_append, Nat.pow_zero, Nat.div_one, List.replicate_zero, Nat.sub_zero] at ht hq
    refine ⟨(us, qs), [some 0, some 1], ⟨⟨hul, hud, ht⟩, hq⟩, ?_⟩
    refine of_eq (B := letI z7 := (Cap.toEnd (1 : Nat)); letI z0 := (D.sl (0 : Nat) (0 : Nat) ((List.length xs) + (1 : Nat)) z7); letI z1 := (D.sl (1 : Nat) (0 : Nat) (dM xs ys) z7); letI z2 := (D.v (Value.int IntKind.i64 (((dsh ys) : Nat) : Int))); letI z3 := (Option.some (Blk.mk (41 : Nat) (u32s us) Bool.true)); letI z4 := (Option.some (Blk.mk (41 : Nat) (u32s qs) Bool.true)); letI z5 := (D.ro (List.length (dvs ys)) (u32s (dvs ys))); letI z6 := ([] : List (Option Blk)); ((Bool.true = Bool.true) ∧ ((((z3 = z3) ∧ (NamelessL (u32s us))) ∧ (((z4 = z4) ∧ (NamelessL (u32s qs))) ∧ (z6 = z6))) ∧ ((True ∧ (z2 = z2)) ∧ ((True ∧ (z0 = z0)) ∧ ((True ∧ (z5 = z5)) ∧ ((True ∧ (z1 = z1)) ∧ True))))))) (by kernel_rfl) ?_
    simp [u32s_nameless]
end Go.Proofs.Ythnhfkpihbjddaa
end
