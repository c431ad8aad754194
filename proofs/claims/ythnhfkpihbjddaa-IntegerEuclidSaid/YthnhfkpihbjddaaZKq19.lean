import Derived.Test.YthnhfkpihbjddaaZKq18
import Derived.Test.YthnhfkpihbjddaaZKq17
section
namespace Go.Proofs.Ythnhfkpihbjddaa
open Go.VD
set_option linter.unusedVariables false
set_option linter.unusedSimpArgs false
set_option maxRecDepth 100000
def d_steps (a b c d : Int) : Option Blk := some ⟨112, [.v (.int .i64 a), .v (.int .i64 b), .v (.int .i64 c), .v (.int .i64 d)], true⟩
theorem tdiv_bd {n d M : Int} (hd : 0 < d) (h : -M ≤ n ∧ n ≤ M) : -M ≤ n.tdiv d ∧ n.tdiv d ≤ M := by
  rcases Int.le_total 0 n with h0 | h0
  · rw [Int.tdiv_eq_ediv_of_nonneg h0]
    have h1 := Int.ediv_nonneg h0 (Int.le_of_lt hd)
    have h2 := Int.ediv_le_self d h0
    omega
  · have h1 := Int.ediv_nonneg (show 0 ≤ -n by omega) (Int.le_of_lt hd)
    have h2 := Int.ediv_le_self d (show 0 ≤ -n by omega)
    have h3 : (-n).tdiv d = (-n) / d := Int.tdiv_eq_ediv_of_nonneg (by omega)
    rw [Int.neg_tdiv] at h3
    omega
def lsh (us : List Nat) : Nat := 32 * (us.length - 1) + bl (us.getD (us.length - 1) 0) - 62
def wX (us xs : List Nat) : Int := ((nv xs / 2 ^ lsh us : Nat) : Int)
def lsX (us vs : List Nat) : Int × Int × Int × Int := lsF (wX us us) (wX us vs) 1 0 0 1
def lHyp (us vs : List Nat) : Prop := ((us.length ≤ 1000000 ∧ vs.length ≤ 1000000) ∧ Dig us ∧ Dig vs) ∧ 2 < us.length ∧ nv vs ≤ nv us
theorem nv_lt_bl {us : List Nat} (hd : Dig us) (h0 : 0 < us.length) : nv us < 2 ^ (32 * (us.length - 1) + bl (us.getD (us.length - 1) 0)) := by
  have h1 := nv_take_succ us (us.length - 1) (by omega)
  rw [show us.length - 1 + 1 = us.length by omega, List.take_length] at h1
  have h2 := nv_lt (hd.take (us.length - 1))
  rw [show (us.take (us.length - 1)).length = us.length - 1 by simp] at h2
  have h3 := bl_lt (us.getD (us.length - 1) 0)
  have h4 : 2 ^ (32 * (us.length - 1)) = 4294967296 ^ (us.length - 1) := by rw [Nat.pow_mul]
  rw [Nat.pow_add, h4, h1]
  have h5 := Nat.mul_le_mul_left (4294967296 ^ (us.length - 1)) (show us.getD (us.length - 1) 0 + 1 ≤ 2 ^ bl (us.getD (us.length - 1) 0) from h3)
  rw [Nat.mul_add, Nat.mul_one, Nat.mul_comm _ (us.getD _ _)] at h5
  omega
theorem leh_base {us vs : List Nat} (h : lHyp us vs) : nv us < 4611686018427387904 * 2 ^ lsh us ∧ nv vs < 4611686018427387904 * 2 ^ lsh us ∧
    Base (nv us : Nat) (nv vs : Nat) ((2 ^ lsh us : Nat) : Int) (wX us us) (wX us vs) := by
  obtain ⟨⟨⟨lu, lv⟩, du, dv⟩, l3, hle⟩ := h
  have h1 := nv_lt_bl du (by omega)
  have e1 : 2 ^ (32 * (us.length - 1) + bl (us.getD (us.length - 1) 0)) = 4611686018427387904 * 2 ^ lsh us := by
    rw [show (4611686018427387904 : Nat) = 2 ^ 62 by rfl, ← Nat.pow_add]
    congr 1; unfold lsh; omega
  rw [e1] at h1
  have hP : 0 < 2 ^ lsh us := Nat.pow_pos (by decide)
  have hx : nv us / 2 ^ lsh us < 4611686018427387904 := by rw [Nat.div_lt_iff_lt_mul hP]; exact h1
  have bnd : ∀ n : Nat, ((n / 2 ^ lsh us : Nat) : Int) * ((2 ^ lsh us : Nat) : Int) ≤ n ∧ (n : Int) < ((n / 2 ^ lsh us : Nat) : Int) * ((2 ^ lsh us : Nat) : Int) + ((2 ^ lsh us : Nat) : Int) := fun n => by
    have h2 := Nat.div_add_mod n (2 ^ lsh us)
    have h3 := Nat.mod_lt n hP
    rw [← Int.natCast_mul, Nat.mul_comm]
    generalize 2 ^ lsh us * (n / 2 ^ lsh us) = W at *
    omega
  have hy : (0 : Int) ≤ wX us vs := Int.natCast_nonneg _
  have hx2 : wX us us < 4611686018427387904 := Int.ofNat_lt.2 hx
  refine ⟨h1, by omega, ⟨by omega, bnd _, bnd _, ⟨by omega, by omega⟩, hy, hx2⟩⟩
def lp_lsLoop (us vs : List Nat) : LoopO := loopRule (α := Int × Int × Int × Int × Int × Int) (β := Unit) [some 0, some 1] (fun s => Leh (nv us : Nat) (nv vs : Nat) ((2 ^ lsh us : Nat) : Int) (wX us us) (wX us vs) s.1 s.2.1 s.2.2.1 s.2.2.2.1 s.2.2.2.2.1 s.2.2.2.2.2 ∧ lsF s.1 s.2.1 s.2.2.1 s.2.2.2.1 s.2.2.2.2.1 s.2.2.2.2.2 = lsX us vs) (fun s => [(4, .ptr 0 0), (6, .v (.int .i64 s.1)), (7, .v (.int .i64 s.2.1)), (8, .ptr 1 0)]) (fun s => [d_steps 0 0 0 0, d_steps s.2.2.1 s.2.2.2.1 s.2.2.2.2.1 s.2.2.2.2.2]) ((wX us us, wX us vs, 1, 0, 0, 1)) (fun _ => True) (fun _ => (.exit 0, [(4, .ptr 0 0), (8, .ptr 1 0)], [d_steps 0 0 0 0, d_steps (lsX us vs).1 (lsX us vs).2.1 (lsX us vs).2.2.1 (lsX us vs).2.2.2]))
theorem lsLoop_rule (us vs : List Nat) (hpre : lHyp us vs) : LRuleP Try.prog Try.f103.ntmps (loopAt ((Try.f103.body).getD .skip) 4) (lp_lsLoop us vs) := by
  refine lrule_of (α := Int × Int × Int × Int × Int × Int) (β := Unit) (call := noCalls) (lp := fun _ => none) (N := 10) T_ok mixed noCalls_ok (fun s => s.2.1.toNat) (by kernel_rfl) (LpAllP.none _) ?_
  intro x hJ
  refine of_eq (B := letI z12 := (Prod.snd (Prod.snd x)); letI z34 := Prod.fst z12; letI z13 := (Prod.fst (Prod.snd x)); letI z2 := (Prod.snd (Prod.snd z12)); letI z18 := (IntKind.wrap IntKind.i64 (z13 + (Prod.fst z2))); letI z0 := (IntKind.wrap IntKind.i64 (Int.tdiv (IntKind.wrap IntKind.i64 ((Prod.fst x) + z34)) z18)); letI z14 := (Exit.exit (0 : Nat)); letI z10 := (Prod.mk (4 : Nat) (D.ptr (0 : Nat) (0 : Nat))); letI z11 := (Prod.mk (8 : Nat) (D.ptr (1 : Nat) (0 : Nat))); letI z27 := (d_steps (0 : Int) (0 : Int) (0 : Int) (0 : Int)); letI z30 := (Prod.snd (lsX us vs)); letI z1 := (Prod.mk z14 (Prod.mk [z10, z11] [z27, (d_steps (Prod.fst (lsX us vs)) (Prod.fst z30) (Prod.fst (Prod.snd z30)) (Prod.snd (Prod.snd z30)))])); letI z20 := (D.v (Value.int IntKind.i64 (Prod.fst z2))); letI z21 := (D.v (Value.int IntKind.i64 (Prod.snd z2))); letI z7 := (IntKind.wrap IntKind.i64 (z34 - (IntKind.wrap IntKind.i64 (z0 * (Prod.fst z2))))); letI z31 := (D.v (Value.int IntKind.i64 z7)); letI z28 := (Prod.fst (Prod.snd z12)); letI z6 := (IntKind.wrap IntKind.i64 (z28 - (IntKind.wrap IntKind.i64 (z0 * (Prod.snd z2))))); letI z32 := (D.v (Value.int IntKind.i64 z6)); letI z3 := (Option.some (Blk.mk (112 : Nat) [z20, z21, z31, z32] Bool.true)); letI z29 := (D.v (Value.int IntKind.i64 z34)); letI z16 := (D.v (Value.int IntKind.i64 z28)); letI z4 := (Option.some (Blk.mk (112 : Nat) [z29, z16, z20, z21] Bool.true)); letI z15 := (D.v (Value.int IntKind.i64 (0 : Int))); letI z5 := (Option.some (Blk.mk (112 : Nat) [z15, z15, z15, z15] Bool.true)); letI z35 := ((2 : Nat) < (4 : Nat)); letI z8 := (z35 ∧ (IsInt IntKind.i64 z20)); letI z36 := ((3 : Nat) < (4 : Nat)); letI z9 := (z36 ∧ (IsInt IntKind.i64 z21)); letI z17 := (((0 : Nat) < (4 : Nat)) ∧ (IsInt IntKind.i64 z29)); letI z19 := (IntKind.wrap IntKind.i64 (z13 + (Prod.snd z2))); letI z22 := (z35 ∧ (IsInt IntKind.i64 z31)); letI z23 := (z36 ∧ (IsInt IntKind.i64 z32)); letI z24 := (List (Option Nat)); letI z33 := ((4 : Nat) ≤ (4 : Nat)); letI z25 := (((4 : Nat) = (4 : Nat)) ∧ z33); letI z26 := (((1 : Nat) < (4 : Nat)) ∧ (IsInt IntKind.i64 z16)); (True ∧ (True ∧ (z8 ∧ (True ∧ (True ∧ (True ∧ (pcond (Decidable.decide ((0 : Int) < z18)) (True ∧ (True ∧ (z9 ∧ (True ∧ (True ∧ (True ∧ (pcond (Decidable.decide ((0 : Int) < z19)) (True ∧ (True ∧ (z17 ∧ (True ∧ (True ∧ (True ∧ (z8 ∧ (True ∧ ((z18 ≠ (0 : Int)) ∧ (True ∧ (True ∧ (True ∧ (True ∧ (z26 ∧ (True ∧ (True ∧ (True ∧ (z9 ∧ (True ∧ ((z19 ≠ (0 : Int)) ∧ (True ∧ (pcond (z0 != (IntKind.wrap IntKind.i64 (Int.tdiv (IntKind.wrap IntKind.i64 ((Prod.fst x) + z28)) z19))) (∃ (r : Unit), (∃ (kp : z24), (True ∧ ((z14 = z14) ∧ (viewAll kp [z10, z11] [z5, z4] (Prod.fst (Prod.snd ((fun (x_1 : Unit) => z1) r))) (Prod.snd (Prod.snd ((fun (x_1 : Unit) => z1) r)))))))) (True ∧ (z8 ∧ (True ∧ (z9 ∧ (True ∧ (z17 ∧ (True ∧ (True ∧ (z8 ∧ (True ∧ (True ∧ (True ∧ (z26 ∧ (True ∧ (True ∧ (z9 ∧ (True ∧ (True ∧ (True ∧ (True ∧ (z25 ∧ (True ∧ (z22 ∧ (True ∧ (z22 ∧ (True ∧ (True ∧ (z23 ∧ (True ∧ (z23 ∧ (True ∧ (True ∧ (True ∧ (pcond (Decidable.decide ((1073741824 : Int) ≤ (Max.max (Max.max (Max.max z7 (IntKind.wrap IntKind.i64 ((0 : Int) - z7))) z6) (IntKind.wrap IntKind.i64 ((0 : Int) - z6))))) (∃ (r : Unit), (∃ (kp : z24), (True ∧ ((z14 = z14) ∧ (viewAll kp [z10, z11] [z5, z4, z3] (Prod.fst (Prod.snd ((fun (x_1 : Unit) => z1) r))) (Prod.snd (Prod.snd ((fun (x_1 : Unit) => z1) r)))))))) (z33 ∧ (z25 ∧ (True ∧ (True ∧ (True ∧ (True ∧ (True ∧ (True ∧ (True ∧ (True ∧ (∃ (y : (Prod Int (Prod Int (Prod Int (Prod Int (Prod Int Int)))))), (∃ (kp : z24), (((Int.toNat (Prod.fst (Prod.snd y))) < (Int.toNat z13)) ∧ (((Leh (((nv us) : Nat) : Int) (((nv vs) : Nat) : Int) ((((2 : Nat) ^ (lsh us)) : Nat) : Int) (wX us us) (wX us vs) (Prod.fst y) (Prod.fst (Prod.snd y)) (Prod.fst (Prod.snd (Prod.snd y))) (Prod.fst (Prod.snd (Prod.snd (Prod.snd y)))) (Prod.fst (Prod.snd (Prod.snd (Prod.snd (Prod.snd y))))) (Prod.snd (Prod.snd (Prod.snd (Prod.snd (Prod.snd y)))))) ∧ ((lsF (Prod.fst y) (Prod.fst (Prod.snd y)) (Prod.fst (Prod.snd (Prod.snd y))) (Prod.fst (Prod.snd (Prod.snd (Prod.snd y)))) (Prod.fst (Prod.snd (Prod.snd (Prod.snd (Prod.snd y))))) (Prod.snd (Prod.snd (Prod.snd (Prod.snd (Prod.snd y)))))) = (lsX us vs))) ∧ (viewAll kp [z10, (Prod.mk (6 : Nat) (D.v (Value.int IntKind.i64 z13))), (Prod.mk (7 : Nat) (D.v (Value.int IntKind.i64 (IntKind.wrap IntKind.i64 ((Prod.fst x) - (IntKind.wrap IntKind.i64 (z0 * z13))))))), z11] [z5, z3, z3] [z10, (Prod.mk (6 : Nat) (D.v (Value.int IntKind.i64 (Prod.fst y)))), (Prod.mk (7 : Nat) (D.v (Value.int IntKind.i64 (Prod.fst (Prod.snd y))))), z11] [z27, (d_steps (Prod.fst (Prod.snd (Prod.snd y))) (Prod.fst (Prod.snd (Prod.snd (Prod.snd y)))) (Prod.fst (Prod.snd (Prod.snd (Prod.snd (Prod.snd y))))) (Prod.snd (Prod.snd (Prod.snd (Prod.snd (Prod.snd y))))))]))))))))))))))))))))))))))))))))))))))))))))))))))))))))))))))))))))))) (∃ (r : Unit), (∃ (kp : z24), (True ∧ ((z14 = z14) ∧ (viewAll kp [z10, z11] [z5, z4] (Prod.fst (Prod.snd ((fun (x_1 : Unit) => z1) r))) (Prod.snd (Prod.snd ((fun (x_1 : Unit) => z1) r))))))))))))))) (True ∧ (∃ (r : Unit), (∃ (kp : z24), (True ∧ ((z14 = z14) ∧ (viewAll kp [z10, z11] [z5, z4] (Prod.fst (Prod.snd ((fun (x_1 : Unit) => z1) r))) (Prod.snd (Prod.snd ((fun (x_1 : Unit) => z1) r))))))))))))))))) (by kernel_rfl) ?_
  obtain ⟨x, y, a, b, c, d⟩ := x
  obtain ⟨hL, hF⟩ := hJ
  simp only at hL hF
  have hpre := (leh_base hpre).2.2
  obtain ⟨⟨x1, x2⟩, y1, y2⟩ := leh_facts hpre hL
  obtain ⟨⟨a1, a2⟩, b1, b2⟩ := hL.ba
  obtain ⟨⟨c1, c2⟩, d1, d2⟩ := hL.bc
  have w1 : IntKind.i64.wrap (y + c) = y + c := wrap_i64_of (by omega) (by omega)
  have w2 : IntKind.i64.wrap (y + d) = y + d := wrap_i64_of (by omega) (by omega)
  have w3 : IntKind.i64.wrap (x + a) = x + a := wrap_i64_of (by omega) (by omega)
  have w4 : IntKind.i64.wrap (x + b) = x + b := wrap_i64_of (by omega) (by omega)
  simp only [true_and, and_true, and_self, IsInt_lit, IsBool_lit, IsStr_lit, Bool.not_eq_true', Bool.not_eq_false', Bool.not_true, Bool.not_false, Int.reduceLE, Int.reduceLT, Int.reduceNeg, Nat.le_refl, Int.le_refl, Nat.reduceLT, Nat.reduceLeDiff, Nat.reduceEqDiff, D.v.injEq, D.tup.injEq, D.agg.injEq, D.ro.injEq, List.cons.injEq, Value.int.injEq, Value.bool.injEq, pcond_true, pcond_false, NamelessL, Nameless, Nat.reduceMul, Nat.reduceAdd, Nat.zero_add, Int.toNat_natCast, w1, w2, w3, w4]
  rw [← hF]
  refine pcond_intro (fun h1 => ?_) (fun h1 => ⟨(), [some 0, some 1], ?_⟩)
  · simp only [decide_eq_true_eq] at h1
    refine pcond_intro (fun h2 => ?_) (fun h2 => ⟨(), [some 0, some 1], ?_⟩)
    · simp only [decide_eq_true_eq] at h2
      obtain ⟨q1, q2⟩ := tdiv_bd (n := x + a) (M := 4611686018427387904 + 1073741824 + 1073741824) h1 (by omega)
      obtain ⟨q3, q4⟩ := tdiv_bd (n := x + b) (M := 4611686018427387904 + 1073741824 + 1073741824) h2 (by omega)
      rw [wrap_i64_of (n := (x + a).tdiv (y + c)) (by omega) (by omega), wrap_i64_of (n := (x + b).tdiv (y + d)) (by omega) (by omega)]
      refine ⟨by omega, by omega, pcond_intro (fun h3 => ⟨(), [some 0, some 1], ?_⟩) (fun h3 => ?_)⟩
      · simp only [bne_iff_ne, ne_eq] at h3
        rw [show lsF x y a b c d = (a, b, c, d) by rw [lsF, if_pos ⟨h1, h2⟩, if_neg (show ¬ lsQ x y a c = lsQ x y b d from h3)]]
        refine of_eq (B := letI z0 := (D.v (Value.int IntKind.i64 (0 : Int))); letI z3 := (D.v (Value.int IntKind.i64 a)); letI z4 := (D.v (Value.int IntKind.i64 b)); letI z5 := (D.v (Value.int IntKind.i64 c)); letI z6 := (D.v (Value.int IntKind.i64 d)); letI z1 := (Option.some (Blk.mk (112 : Nat) [z3, z4, z5, z6] Bool.true)); letI z2 := (Option.some (Blk.mk (112 : Nat) [z0, z0, z0, z0] Bool.true)); letI z7 := (D.ptr (0 : Nat) (0 : Nat)); letI z8 := (D.ptr (1 : Nat) (0 : Nat)); letI z9 := ([] : List (Option Blk)); ((Bool.true = Bool.true) ∧ ((((z2 = z2) ∧ (NamelessL [z0, z0, z0, z0])) ∧ (((z1 = z1) ∧ (NamelessL [z3, z4, z5, z6])) ∧ (z9 = z9))) ∧ ((True ∧ (z7 = z7)) ∧ ((True ∧ (z8 = z8)) ∧ True))))) (by kernel_rfl) ?_
        simp [NamelessL, Nameless]
      · have h3 : (x + a).tdiv (y + c) = (x + b).tdiv (y + d) := by simpa using h3
        obtain ⟨⟨e1, e2, e3, e4⟩, ⟨e5, e6⟩, ⟨e7, e8⟩, ⟨e9, e10⟩, e11, e12⟩ := leh_ov hpre hL h1 h2 rfl h3
        have hq : lsQ x y a c = (x + a).tdiv (y + c) := rfl
        have hst := leh_step (q := (x + a).tdiv (y + c)) hpre hL h1 h2 rfl h3
        rw [lsF, if_pos ⟨h1, h2⟩, if_pos (show lsQ x y a c = lsQ x y b d from h3), hq]
        generalize (x + a).tdiv (y + c) = q at *
        rw [wrap_i64_of (n := q * c) (by omega) (by omega), wrap_i64_of (n := q * d) (by omega) (by omega), wrap_i64_of (n := q * y) (by omega) (by omega),
          wrap_i64_of (n := a - q * c) (by omega) (by omega), wrap_i64_of (n := b - q * d) (by omega) (by omega), wrap_i64_of (n := x - q * y) (by omega) (by omega),
          wrap_i64_of (n := 0 - (a - q * c)) (by omega) (by omega), wrap_i64_of (n := 0 - (b - q * d)) (by omega) (by omega)]
        have hm : max (max (max (a - q * c) (0 - (a - q * c))) (b - q * d)) (0 - (b - q * d)) = lsM (a - q * c) (b - q * d) := by unfold lsM; rw [Int.zero_sub, Int.zero_sub]
        rw [hm]
        refine pcond_intro (fun h4 => ⟨(), [some 0, some 1], ?_⟩) (fun h4 => ?_)
        · simp only [decide_eq_true_eq] at h4
          rw [if_pos h4]
          refine of_eq (B := letI z0 := (D.v (Value.int IntKind.i64 (0 : Int))); letI z3 := (D.v (Value.int IntKind.i64 a)); letI z4 := (D.v (Value.int IntKind.i64 b)); letI z5 := (D.v (Value.int IntKind.i64 c)); letI z6 := (D.v (Value.int IntKind.i64 d)); letI z1 := (Option.some (Blk.mk (112 : Nat) [z3, z4, z5, z6] Bool.true)); letI z2 := (Option.some (Blk.mk (112 : Nat) [z0, z0, z0, z0] Bool.true)); letI z7 := (D.ptr (0 : Nat) (0 : Nat)); letI z8 := (D.ptr (1 : Nat) (0 : Nat)); letI z9 := ([] : List (Option Blk)); ((Bool.true = Bool.true) ∧ ((((z2 = z2) ∧ (NamelessL [z0, z0, z0, z0])) ∧ (((z1 = z1) ∧ (NamelessL [z3, z4, z5, z6])) ∧ (z9 = z9))) ∧ ((True ∧ (z7 = z7)) ∧ ((True ∧ (z8 = z8)) ∧ True))))) (by kernel_rfl) ?_
          simp [NamelessL, Nameless]
        · simp only [decide_eq_false_iff_not] at h4
          obtain ⟨m1, m2⟩ := lsM_lt h4
          have ht : (x - q * y).toNat < y.toNat := by omega
          rw [if_neg h4, dif_pos ht]
          refine ⟨(y, x - q * y, c, d, a - q * c, b - q * d), [some 0, some 1], ht, ⟨hst m1 m2, rfl⟩, ?_⟩
          refine of_eq (B := letI z0 := (D.v (Value.int IntKind.i64 (0 : Int))); letI z6 := (D.v (Value.int IntKind.i64 c)); letI z7 := (D.v (Value.int IntKind.i64 d)); letI z3 := (D.v (Value.int IntKind.i64 (a - (q * c)))); letI z4 := (D.v (Value.int IntKind.i64 (b - (q * d)))); letI z1 := (Option.some (Blk.mk (112 : Nat) [z6, z7, z3, z4] Bool.true)); letI z2 := (Option.some (Blk.mk (112 : Nat) [z0, z0, z0, z0] Bool.true)); letI z5 := (D.v (Value.int IntKind.i64 (x - (q * y)))); letI z8 := (D.v (Value.int IntKind.i64 y)); letI z9 := (D.ptr (0 : Nat) (0 : Nat)); letI z10 := (D.ptr (1 : Nat) (0 : Nat)); letI z11 := ([] : List (Option Blk)); ((Bool.true = Bool.true) ∧ ((((z2 = z2) ∧ (NamelessL [z0, z0, z0, z0])) ∧ (((z1 = z1) ∧ (NamelessL [z6, z7, z3, z4])) ∧ (z11 = z11))) ∧ ((True ∧ (z9 = z9)) ∧ ((True ∧ (z8 = z8)) ∧ ((True ∧ (z5 = z5)) ∧ ((True ∧ (z10 = z10)) ∧ True))))))) (by kernel_rfl) ?_
          simp [NamelessL, Nameless]
    · simp only [decide_eq_false_iff_not] at h2
      rw [show lsF x y a b c d = (a, b, c, d) by rw [lsF, if_neg (fun h => h2 h.2)]]
      refine of_eq (B := letI z0 := (D.v (Value.int IntKind.i64 (0 : Int))); letI z3 := (D.v (Value.int IntKind.i64 a)); letI z4 := (D.v (Value.int IntKind.i64 b)); letI z5 := (D.v (Value.int IntKind.i64 c)); letI z6 := (D.v (Value.int IntKind.i64 d)); letI z1 := (Option.some (Blk.mk (112 : Nat) [z3, z4, z5, z6] Bool.true)); letI z2 := (Option.some (Blk.mk (112 : Nat) [z0, z0, z0, z0] Bool.true)); letI z7 := (D.ptr (0 : Nat) (0 : Nat)); letI z8 := (D.ptr (1 : Nat) (0 : Nat)); letI z9 := ([] : List (Option Blk)); ((Bool.true = Bool.true) ∧ ((((z2 = z2) ∧ (NamelessL [z0, z0, z0, z0])) ∧ (((z1 = z1) ∧ (NamelessL [z3, z4, z5, z6])) ∧ (z9 = z9))) ∧ ((True ∧ (z7 = z7)) ∧ ((True ∧ (z8 = z8)) ∧ True))))) (by kernel_rfl) ?_
      simp [NamelessL, Nameless]
  · simp only [decide_eq_false_iff_not] at h1
    rw [show lsF x y a b c d = (a, b, c, d) by rw [lsF, if_neg (fun h => h1 h.1)]]
    refine of_eq (B := letI z0 := (D.v (Value.int IntKind.i64 (0 : Int))); letI z3 := (D.v (Value.int IntKind.i64 a)); letI z4 := (D.v (Value.int IntKind.i64 b)); letI z5 := (D.v (Value.int IntKind.i64 c)); letI z6 := (D.v (Value.int IntKind.i64 d)); letI z1 := (Option.some (Blk.mk (112 : Nat) [z3, z4, z5, z6] Bool.true)); letI z2 := (Option.some (Blk.mk (112 : Nat) [z0, z0, z0, z0] Bool.true)); letI z7 := (D.ptr (0 : Nat) (0 : Nat)); letI z8 := (D.ptr (1 : Nat) (0 : Nat)); letI z9 := ([] : List (Option Blk)); ((Bool.true = Bool.true) ∧ ((((z2 = z2) ∧ (NamelessL [z0, z0, z0, z0])) ∧ (((z1 = z1) ∧ (NamelessL [z3, z4, z5, z6])) ∧ (z9 = z9))) ∧ ((True ∧ (z7 = z7)) ∧ ((True ∧ (z8 = z8)) ∧ True))))) (by kernel_rfl) ?_
    simp [NamelessL, Nameless]
theorem ileadingSteps_pure (us vs : List Nat) (hpre : lHyp us vs) : PureJ Try.prog 103 [.ro us.length (u32s us), .ro vs.length (u32s vs)] (.agg [.v (.int .i64 (lsX us vs).1), .v (.int .i64 (lsX us vs).2.1), .v (.int .i64 (lsX us vs).2.2.1), .v (.int .i64 (lsX us vs).2.2.2)]) := by
  refine pureJ_of_vcp (call := (addPure 107 ent_ilength (addPure 125 ent_iwindow noCalls))) (lp := fun k => bif Nat.beq k 4 then some (lp_lsLoop us vs) else none) (N := 10) T_ok mixed (addPure_ok ent_ilength_ok (addPure_ok ent_iwindow_ok noCalls_ok)) Try.func103 rfl (by decide) (by kernel_rfl) (by kernel_rfl) (of_eq (B := LRuleP Try.prog Try.f103.ntmps (loopAt ((Try.f103.body).getD .skip) 4) (lp_lsLoop us vs) ∧ True) (by kernel_rfl) ⟨lsLoop_rule us vs hpre, trivial⟩) (by first | trivial | (simp only [NamelessL, Nameless, and_self, and_true, true_and]; done) | (simp [NamelessL, Nameless, u32s_nameless, namelessL_ints]; done)) (by first | trivial | (simp only [NamelessL, Nameless, and_self, and_true, true_and]; done) | (simp [NamelessL, Nameless, u32s_nameless, namelessL_ints]; done)) ?_
  refine of_eq (B := letI z4 := (unu (u32s us)); letI z5 := List.length z4; letI z0 := (IntKind.wrap IntKind.i64 ((((((32 : Nat) * (z5 - (1 : Nat))) + (bl (List.getD z4 (z5 - (1 : Nat)) (0 : Nat)))) : Nat) : Int) - (62 : Int))); letI z1 := (D.v (Value.int IntKind.i64 (0 : Int))); letI z13 := (Prod.snd (lsX us vs)); letI z2 := (D.agg [(D.v (Value.int IntKind.i64 (Prod.fst (lsX us vs)))), (D.v (Value.int IntKind.i64 (Prod.fst z13))), (D.v (Value.int IntKind.i64 (Prod.fst (Prod.snd z13)))), (D.v (Value.int IntKind.i64 (Prod.snd (Prod.snd z13))))]); letI z3 := (D.v (Value.int IntKind.i64 (1 : Int))); letI z6 := ((2 : Nat) ^ (Int.toNat z0)); letI z7 := ((4 : Nat) ≤ (4 : Nat)); letI z8 := (unu (u32s vs)); letI z9 := (Option.some (Blk.mk (112 : Nat) [z1, z1, z1, z1] Bool.true)); letI z10 := (Option.some (Blk.mk (112 : Nat) [z3, z1, z1, z3] Bool.true)); letI z11 := (((u32s us) = (u32s z4)) ∧ ((List.length us) = z5)); letI z12 := (((0 : Int) ≤ z0) ∧ (z0 < (64000000 : Int))); letI z14 := ((z5 ≤ (1000000 : Nat)) ∧ (Dig z4)); letI z15 := ((4611686018427387904 : Nat) * z6); letI z16 := (((4 : Nat) = (4 : Nat)) ∧ z7); letI z17 := (D.ptr (0 : Nat) (0 : Nat)); letI z18 := (D.ptr (1 : Nat) (0 : Nat)); letI z19 := ([] : List (Option Blk)); (True ∧ (True ∧ ((z11 ∧ (((0 : Nat) < z5) ∧ z14)) ∧ (True ∧ (True ∧ (True ∧ (True ∧ ((z11 ∧ (z14 ∧ (z12 ∧ ((nv z4) < z15)))) ∧ (True ∧ (True ∧ (((((u32s vs) = (u32s z8)) ∧ ((List.length vs) = (List.length z8))) ∧ ((((List.length z8) ≤ (1000000 : Nat)) ∧ (Dig z8)) ∧ (z12 ∧ ((nv z8) < z15)))) ∧ (True ∧ (True ∧ (True ∧ (True ∧ (z16 ∧ (((Leh (((nv us) : Nat) : Int) (((nv vs) : Nat) : Int) ((((2 : Nat) ^ (lsh us)) : Nat) : Int) (wX us us) (wX us vs) (wX us us) (wX us vs) (1 : Int) (0 : Int) (0 : Int) (1 : Int)) ∧ ((lsF (wX us us) (wX us vs) (1 : Int) (0 : Int) (0 : Int) (1 : Int)) = (lsX us vs))) ∧ (((Bool.true = Bool.true) ∧ ((((z9 = z9) ∧ (NamelessL [z1, z1, z1, z1])) ∧ (((z10 = z10) ∧ (NamelessL [z3, z1, z1, z3])) ∧ (z19 = z19))) ∧ ((True ∧ (z17 = z17)) ∧ ((True ∧ ((D.v (Value.int IntKind.i64 ((((nv z4) / z6) : Nat) : Int))) = (D.v (Value.int IntKind.i64 (wX us us))))) ∧ ((True ∧ ((D.v (Value.int IntKind.i64 ((((nv z8) / z6) : Nat) : Int))) = (D.v (Value.int IntKind.i64 (wX us vs))))) ∧ ((True ∧ (z18 = z18)) ∧ True)))))) ∧ (Unit → (True → (z7 ∧ (z16 ∧ ((z7 ∧ True) ∧ ((True ∧ (True ∧ (True ∧ (True ∧ True)))) ∧ (z2 = z2)))))))))))))))))))))))))) (by kernel_rfl) ?_
  obtain ⟨g1, g2, g3⟩ := leh_base hpre
  obtain ⟨⟨⟨lu, lv⟩, du, dv⟩, l3, hle⟩ := hpre
  have b32 := bl32 (du.get (us.length - 1))
  have w1 : IntKind.i64.wrap (((32 * (us.length - 1) + bl (us.getD (us.length - 1) 0) : Nat) : Int) - 62) = ((lsh us : Nat) : Int) := by
    rw [wrap_i64_of (by omega) (by omega)]; unfold lsh; omega
  simp only [true_and, and_true, and_self, IsInt_lit, IsBool_lit, IsStr_lit, Bool.not_eq_true', Bool.not_eq_false', Bool.not_true, Bool.not_false, Int.reduceLE, Int.reduceLT, Int.reduceNeg, Nat.le_refl, Int.le_refl, Nat.reduceLT, Nat.reduceLeDiff, Nat.reduceEqDiff, D.v.injEq, D.tup.injEq, D.agg.injEq, D.ro.injEq, List.cons.injEq, Value.int.injEq, Value.bool.injEq, pcond_true, pcond_false, NamelessL, Nameless, Nat.reduceMul, Nat.reduceAdd, Nat.zero_add, Int.toNat_natCast, unu_u32s, w1]
  have hs : lsh us < 64000000 := by unfold lsh; omega
  exact ⟨⟨by omega, by omega, du⟩, ⟨⟨by omega, du⟩, ⟨by omega, by omega⟩, g1⟩, ⟨⟨by omega, dv⟩, ⟨by omega, by omega⟩, g2⟩, ⟨leh_start g3, rfl⟩, ⟨rfl, rfl⟩, fun _ _ => trivial⟩
def ent_ileadingSteps : Ent := fun ds => match ds with
  | [.ro n_us ys_us, .ro n_vs ys_vs] => some (.agg [.v (.int .i64 (lsX (unu ys_us) (unu ys_vs)).1), .v (.int .i64 (lsX (unu ys_us) (unu ys_vs)).2.1), .v (.int .i64 (lsX (unu ys_us) (unu ys_vs)).2.2.1), .v (.int .i64 (lsX (unu ys_us) (unu ys_vs)).2.2.2)], (ys_vs = u32s (unu ys_vs) ∧ n_vs = (unu ys_vs).length) ∧ (ys_us = u32s (unu ys_us) ∧ n_us = (unu ys_us).length) ∧ lHyp (unu ys_us) (unu ys_vs))
  | _ => none
theorem ent_ileadingSteps_ok : EntOk Try.prog 103 ent_ileadingSteps := by
  intro ds d c h hc; unfold ent_ileadingSteps at h; split at h
  · rename_i n_us ys_us n_vs ys_vs; obtain ⟨rfl, rfl⟩ := pair_inj h
    obtain ⟨⟨h1, h2⟩, hc⟩ := hc; subst h2; generalize (unu ys_vs) = vs at *; subst h1
    obtain ⟨⟨h1, h2⟩, hc⟩ := hc; subst h2; generalize (unu ys_us) = us at *; subst h1
    exact ileadingSteps_pure us vs hc
  · cases h
def entq_ileadingSteps : EntQ := fun ds K => match ds with
  | [.ro n_us ys_us, .ro n_vs ys_vs] => some (((ys_vs = u32s (unu ys_vs) ∧ n_vs = (unu ys_vs).length) ∧ (ys_us = u32s (unu ys_us) ∧ n_us = (unu ys_us).length) ∧ lHyp (unu ys_us) (unu ys_vs)) ∧ (∀ a : Int, a = (lsX (unu ys_us) (unu ys_vs)).1 → (∀ b : Int, b = (lsX (unu ys_us) (unu ys_vs)).2.1 → (∀ c : Int, c = (lsX (unu ys_us) (unu ys_vs)).2.2.1 → (∀ d : Int, d = (lsX (unu ys_us) (unu ys_vs)).2.2.2 → K (.agg [.v (.int .i64 a), .v (.int .i64 b), .v (.int .i64 c), .v (.int .i64 d)]))))))
  | _ => none
theorem entq_ileadingSteps_ok : EntQOk Try.prog 103 entq_ileadingSteps := by
  intro ds K p h hp; unfold entq_ileadingSteps at h; split at h
  · rename_i n_us ys_us n_vs ys_vs; injection h with h; subst h; obtain ⟨hc, hk⟩ := hp
    obtain ⟨⟨h1, h2⟩, hc⟩ := hc; subst h2; generalize (unu ys_vs) = vs at *; subst h1
    obtain ⟨⟨h1, h2⟩, hc⟩ := hc; subst h2; generalize (unu ys_us) = us at *; subst h1
    exact ⟨_, ileadingSteps_pure us vs hc, hk _ rfl _ rfl _ rfl _ rfl⟩
  · cases h
end Go.Proofs.Ythnhfkpihbjddaa
end
section
namespace Go.Proofs.Ythnhfkpihbjddaa
open Go.VD
set_option linter.unusedVariables false
set_option linter.unusedSimpArgs false
set_option maxRecDepth 100000
def d_l (v : Nat) : D := .ro (dg v).length (u32s (dg v))
def gP (xs ys : List Nat) : Nat := max (nv xs) (nv ys)
def gQ (xs ys : List Nat) : Nat := min (nv xs) (nv ys)
def lp_gcdLoop (xs ys : List Nat) : LoopO := loopRule (α := Nat × Nat) (β := Nat × Nat) [] (fun s => Nat.gcd s.1 s.2 = Nat.gcd (gP xs ys) (gQ xs ys) ∧ s.2 ≤ s.1 ∧ s.1 ≤ gP xs ys) (fun s => [(5, d_l s.1), (6, d_l s.2)]) (fun s => []) ((gP xs ys, gQ xs ys)) (fun s => (Nat.gcd s.1 s.2 = Nat.gcd (gP xs ys) (gQ xs ys) ∧ s.2 ≤ s.1 ∧ s.1 ≤ gP xs ys) ∧ (dg s.2).length ≤ 2) (fun s => (.exit 0, [(5, d_l s.1), (6, d_l s.2)], []))
theorem gcdLoop_rule (xs ys : List Nat) (hpre : (dg (gP xs ys)).length ≤ 100000 ∧ gQ xs ys ≤ gP xs ys) : LRuleP Try.prog Try.f62.ntmps (loopAt ((Try.f62.body).getD .skip) 4) (lp_gcdLoop xs ys) := by
  refine lrule_of (α := Nat × Nat) (β := Nat × Nat) (call := (addQ 103 entq_ileadingSteps (addPure 104 ent_icombine (addPure 51 ent_idiv noCalls)))) (lp := fun _ => none) (N := 10) T_ok mixed (addQ_ok entq_ileadingSteps_ok (addPure_ok ent_icombine_ok (addPure_ok ent_idiv_ok noCalls_ok))) (fun s => s.2) (by kernel_rfl) (LpAllP.none _) ?_
  intro x hJ
  refine of_eq (B := letI z9 := (dg (Prod.fst x)); letI z0 := (unu (u32s z9)); letI z6 := (dg (Prod.snd x)); letI z1 := (unu (u32s z6)); letI z12 := List.length z6; letI z2 := (((u32s z6) = (u32s z1)) ∧ (z12 = (List.length z1))); letI z3 := (((u32s z9) = (u32s z0)) ∧ ((List.length z9) = (List.length z0))); letI z4 := (((nv z0) : Nat) : Int); letI z5 := (((nv z1) : Nat) : Int); letI z7 := ([] : List (Option Blk)); letI z8 := (Nat.gcd (gP xs ys) (gQ xs ys)); letI z10 := (Exit.exit (0 : Nat)); letI z11 := Prod Nat Nat; letI z13 := (Prod.snd (lsX z0 z1)); letI z14 := (List (Option Nat)); letI z15 := (dg ((nv z0) % (nv z1))); letI z16 := ((1 : Nat) < (4 : Nat)); letI z17 := (D.ro z12 (u32s z6)); (True ∧ (True ∧ (True ∧ (pcond (Decidable.decide ((2 : Int) < ((z12 : Nat) : Int))) (True ∧ (True ∧ ((z2 ∧ (z3 ∧ (lHyp z0 z1))) ∧ (∀ (a : Int), ((a = (Prod.fst (lsX z0 z1))) → (∀ (b : Int), ((b = (Prod.fst z13)) → (∀ (c : Int), ((c = (Prod.fst (Prod.snd z13))) → (∀ (d : Int), ((d = (Prod.snd (Prod.snd z13))) → (True ∧ ((((4 : Nat) = (4 : Nat)) ∧ ((4 : Nat) ≤ (4 : Nat))) ∧ (True ∧ ((z16 ∧ (IsInt IntKind.i64 (D.v (Value.int IntKind.i64 b)))) ∧ (True ∧ (pcond (b != (0 : Int)) (True ∧ (True ∧ (True ∧ ((((0 : Nat) < (4 : Nat)) ∧ (IsInt IntKind.i64 (D.v (Value.int IntKind.i64 a)))) ∧ (True ∧ ((z16 ∧ (IsInt IntKind.i64 (D.v (Value.int IntKind.i64 b)))) ∧ ((z2 ∧ (z3 ∧ ((cbHyp z0 z1 a b) ∧ (((0 : Int) ≤ ((a * z4) + (b * z5))) ∧ (((a * z4) + (b * z5)) ≤ z4))))) ∧ (True ∧ (True ∧ (True ∧ ((((2 : Nat) < (4 : Nat)) ∧ (IsInt IntKind.i64 (D.v (Value.int IntKind.i64 c)))) ∧ (True ∧ ((((3 : Nat) < (4 : Nat)) ∧ (IsInt IntKind.i64 (D.v (Value.int IntKind.i64 d)))) ∧ ((z2 ∧ (z3 ∧ ((cbHyp z0 z1 c d) ∧ (((0 : Int) ≤ ((c * z4) + (d * z5))) ∧ (((c * z4) + (d * z5)) ≤ z4))))) ∧ (True ∧ (True ∧ ((Bool.true = Bool.true) ∧ (∃ (y : z11), (∃ (kp : z14), (((Prod.snd y) < (Prod.snd x)) ∧ ((((Nat.gcd (Prod.fst y) (Prod.snd y)) = z8) ∧ (((Prod.snd y) ≤ (Prod.fst y)) ∧ ((Prod.fst y) ≤ (gP xs ys)))) ∧ (viewAll kp [(Prod.mk (5 : Nat) (D.ro (List.length (dg (Int.toNat ((a * z4) + (b * z5))))) (u32s (dg (Int.toNat ((a * z4) + (b * z5))))))), (Prod.mk (6 : Nat) (D.ro (List.length (dg (Int.toNat ((c * z4) + (d * z5))))) (u32s (dg (Int.toNat ((c * z4) + (d * z5)))))))] [(Option.some (Blk.mk (112 : Nat) [(D.v (Value.int IntKind.i64 a)), (D.v (Value.int IntKind.i64 b)), (D.v (Value.int IntKind.i64 c)), (D.v (Value.int IntKind.i64 d))] Bool.true))] [(Prod.mk (5 : Nat) (d_l (Prod.fst y))), (Prod.mk (6 : Nat) (d_l (Prod.snd y)))] z7)))))))))))))))))))))) (True ∧ (True ∧ (((z3 ∧ z2) ∧ (dHyp z0 z1)) ∧ (True ∧ (True ∧ (True ∧ (True ∧ (True ∧ (True ∧ (True ∧ (True ∧ (True ∧ (∃ (y : z11), (∃ (kp : z14), (((Prod.snd y) < (Prod.snd x)) ∧ ((((Nat.gcd (Prod.fst y) (Prod.snd y)) = z8) ∧ (((Prod.snd y) ≤ (Prod.fst y)) ∧ ((Prod.fst y) ≤ (gP xs ys)))) ∧ (viewAll kp [(Prod.mk (5 : Nat) z17), (Prod.mk (6 : Nat) (D.ro (List.length z15) (u32s z15)))] [(Option.some (Blk.mk (112 : Nat) [(D.v (Value.int IntKind.i64 a)), (D.v (Value.int IntKind.i64 b)), (D.v (Value.int IntKind.i64 c)), (D.v (Value.int IntKind.i64 d))] Bool.true))] [(Prod.mk (5 : Nat) (d_l (Prod.fst y))), (Prod.mk (6 : Nat) (d_l (Prod.snd y)))] z7)))))))))))))))))))))))))))))))))) (∃ (r : z11), (∃ (kp : z14), (((((Nat.gcd (Prod.fst r) (Prod.snd r)) = z8) ∧ (((Prod.snd r) ≤ (Prod.fst r)) ∧ ((Prod.fst r) ≤ (gP xs ys)))) ∧ ((List.length (dg (Prod.snd r))) ≤ (2 : Nat))) ∧ ((z10 = z10) ∧ (viewAll kp [(Prod.mk (5 : Nat) (D.ro (List.length z9) (u32s z9))), (Prod.mk (6 : Nat) z17)] z7 (Prod.fst (Prod.snd ((fun (s : z11) => (Prod.mk z10 (Prod.mk [(Prod.mk (5 : Nat) (d_l (Prod.fst s))), (Prod.mk (6 : Nat) (d_l (Prod.snd s)))] z7))) r))) (Prod.snd (Prod.snd ((fun (s : z11) => (Prod.mk z10 (Prod.mk [(Prod.mk (5 : Nat) (d_l (Prod.fst s))), (Prod.mk (6 : Nat) (d_l (Prod.snd s)))] z7))) r))))))))))))) (by kernel_rfl) ?_
  obtain ⟨a, b⟩ := x
  obtain ⟨hg, hle, hp⟩ := hJ
  simp only at hg hle hp
  obtain ⟨hlen, hqp⟩ := hpre
  generalize gP xs ys = p at *
  generalize gQ xs ys = q at *
  simp only [true_and, and_true, and_self, IsInt_lit, IsBool_lit, IsStr_lit, Bool.not_eq_true', Bool.not_eq_false', Bool.not_true, Bool.not_false, Int.reduceLE, Int.reduceLT, Int.reduceNeg, Nat.le_refl, Int.le_refl, Nat.reduceLT, Nat.reduceLeDiff, Nat.reduceEqDiff, D.v.injEq, D.tup.injEq, D.agg.injEq, D.ro.injEq, List.cons.injEq, Value.int.injEq, Value.bool.injEq, pcond_true, pcond_false, NamelessL, Nameless, Nat.reduceMul, Nat.reduceAdd, Nat.zero_add, Int.toNat_natCast, unu_u32s] at *
  refine pcond_intro (fun h => ?_) (fun h => ?_)
  · simp only [decide_eq_true_eq] at h
    have h2 : 2 < (dg b).length := by omega
    have m1 := dg_len_mono hp
    have m2 := dg_len_mono hle
    have hb0 : 0 < b := by
      rcases Nat.eq_zero_or_pos b with h0 | h0
      · subst h0; rw [dg_zero] at h2; simp at h2
      · exact h0
    have hG : lHyp (dg a) (dg b) := ⟨⟨⟨by omega, by omega⟩, dg_dig _, dg_dig _⟩, by omega, by rw [nv_dg, nv_dg]; exact hle⟩
    refine ⟨hG, fun A eA B eB C eC D' eD => ?_⟩
    obtain ⟨x', y', hL⟩ := lsF_spec (leh_base hG).2.2 _ _ _ _ _ _ _ rfl (leh_start (leh_base hG).2.2)
    change Leh _ _ _ _ _ _ _ (lsX (dg a) (dg b)).1 (lsX (dg a) (dg b)).2.1 (lsX (dg a) (dg b)).2.2.1 (lsX (dg a) (dg b)).2.2.2 at hL
    rw [← eA, ← eB, ← eC, ← eD, nv_dg, nv_dg] at hL
    clear eA eB eC eD
    obtain ⟨_, _, sg, ba, bc, V0, VU, Uu, g, f⟩ := hL
    rw [nv_dg, nv_dg]
    refine pcond_intro (fun h3 => ?_) (fun h3 => ?_)
    · have h3 : B ≠ 0 := by simpa using h3
      have hV : C * (a : Int) + D' * (b : Int) < (b : Int) := by
        rcases f with ⟨f, _⟩ | f
        · exact absurd f h3
        · exact f
      have hl : (dg a).length ≤ 1000000 ∧ (dg b).length ≤ (dg a).length := by omega
      refine ⟨⟨⟨⟨hl, dg_dig _, dg_dig _⟩, ba, by rcases sg with ⟨s1, s2, _⟩ | ⟨s1, s2, _⟩ <;> omega⟩, by omega, by omega⟩, ⟨⟨⟨hl, dg_dig _, dg_dig _⟩, bc, by rcases sg with ⟨s1, s2, _⟩ | ⟨s1, s2, _⟩ <;> omega⟩, by omega, by omega⟩, ?_⟩
      generalize A * (a : Int) + B * (b : Int) = U at *
      generalize C * (a : Int) + D' * (b : Int) = V at *
      obtain ⟨u, rfl⟩ := Int.eq_ofNat_of_zero_le (show 0 ≤ U by omega)
      obtain ⟨v, rfl⟩ := Int.eq_ofNat_of_zero_le (show 0 ≤ V by omega)
      have g' : Nat.gcd u v = Nat.gcd a b := by simpa using g
      refine ⟨(u, v), [], by simp only; omega, ⟨by rw [← hg, ← g'], by simp only; omega, by simp only; omega⟩, ?_⟩
      simp only [Int.toNat_natCast, Int.ofNat_eq_natCast]
      refine of_eq (B := letI z0 := (D.ro (List.length (dg u)) (u32s (dg u))); letI z1 := (D.ro (List.length (dg v)) (u32s (dg v))); letI z2 := ([] : List (Option Blk)); ((Bool.true = Bool.true) ∧ ((z2 = z2) ∧ ((True ∧ (z0 = z0)) ∧ ((True ∧ (z1 = z1)) ∧ True))))) (by kernel_rfl) ?_
      simp
    · have hm := Nat.mod_lt a hb0
      refine ⟨⟨⟨⟨by omega, by omega⟩, by rw [nv_dg], by rw [nv_dg]⟩, by rw [nv_dg]; exact hb0⟩, (b, a % b), [], hm, ⟨?_, by simp only; omega, by simp only; omega⟩, ?_⟩
      · simp only
        rw [← hg, Nat.gcd_comm a b, Nat.gcd_rec b a, Nat.gcd_comm]
      · refine of_eq (B := letI z0 := (D.ro (List.length (dg (a % b))) (u32s (dg (a % b)))); letI z1 := (D.ro (List.length (dg b)) (u32s (dg b))); letI z2 := ([] : List (Option Blk)); ((Bool.true = Bool.true) ∧ ((z2 = z2) ∧ ((True ∧ (z1 = z1)) ∧ ((True ∧ (z0 = z0)) ∧ True))))) (by kernel_rfl) ?_
        simp
  · simp only [decide_eq_false_iff_not] at h
    refine ⟨(a, b), [], ⟨⟨hg, hle, hp⟩, by simp only; omega⟩, ?_⟩
    refine of_eq (B := letI z0 := (D.ro (List.length (dg a)) (u32s (dg a))); letI z1 := (D.ro (List.length (dg b)) (u32s (dg b))); letI z2 := ([] : List (Option Blk)); ((Bool.true = Bool.true) ∧ ((z2 = z2) ∧ ((True ∧ (z0 = z0)) ∧ ((True ∧ (z1 = z1)) ∧ True))))) (by kernel_rfl) ?_
    simp
theorem word_dg {v : Nat} (h : (dg v).length ≤ 2) : wordV (dg v) = (v : Int) := by
  rw [wordV_eq]
  have h1 := nv_drop_succ (dg v) 0
  have h2 := nv_drop_succ (dg v) 1
  rw [nv_drop_ge (show (dg v).length ≤ 1 + 1 by omega)] at h2
  rw [List.drop_zero, nv_dg, Nat.zero_add] at h1
  omega
def gcHyp (xs ys : List Nat) : Prop := (xs.length ≤ 100000 ∧ ys.length ≤ 100000) ∧ xs = dg (nv xs) ∧ ys = dg (nv ys)
theorem gc_facts {xs ys : List Nat} (h : gcHyp xs ys) : ((dg (gP xs ys)).length ≤ 100000 ∧ gQ xs ys ≤ gP xs ys) ∧ Nat.gcd (gP xs ys) (gQ xs ys) = Nat.gcd (nv xs) (nv ys) := by
  obtain ⟨⟨hx, hy⟩, gx, gy⟩ := h
  rcases Nat.le_total (nv xs) (nv ys) with hl | hl
  · rw [show gP xs ys = nv ys by unfold gP; omega, show gQ xs ys = nv xs by unfold gQ; omega, ← gy]
    exact ⟨⟨hy, hl⟩, Nat.gcd_comm _ _⟩
  · rw [show gP xs ys = nv xs by unfold gP; omega, show gQ xs ys = nv ys by unfold gQ; omega, ← gx]
    exact ⟨⟨hx, hl⟩, rfl⟩
theorem igcd_pure (xs ys : List Nat) (hpre : gcHyp xs ys) : PureJ Try.prog 62 [.ro xs.length (u32s xs), .ro ys.length (u32s ys)] (.ro (dg (Nat.gcd (nv xs) (nv ys))).length (u32s (dg (Nat.gcd (nv xs) (nv ys))))) := by
  refine pureJ_of_vcpN (call := (addPure 65 ent_icompare (addPure 87 ent_iclone (addPure 51 ent_idiv (addPure 106 ent_iword (addPure 105 ent_igcdw (addPure 66 ent_idigits noCalls))))))) (lp := fun k => bif Nat.beq k 4 then some (lp_gcdLoop xs ys) else none) (N := 10) T_ok mixed (addPure_ok ent_icompare_ok (addPure_ok ent_iclone_ok (addPure_ok ent_idiv_ok (addPure_ok ent_iword_ok (addPure_ok ent_igcdw_ok (addPure_ok ent_idigits_ok noCalls_ok)))))) Try.func62 rfl (by decide) (by kernel_rfl) (by kernel_rfl) (of_eq (B := LRuleP Try.prog Try.f62.ntmps (loopAt ((Try.f62.body).getD .skip) 4) (lp_gcdLoop xs ys) ∧ True) (by kernel_rfl) ⟨gcdLoop_rule xs ys (gc_facts hpre).1, trivial⟩) (by first | trivial | (simp only [NamelessL, Nameless, and_self, and_true, true_and]; done) | (simp [NamelessL, Nameless, u32s_nameless, namelessL_ints]; done)) (by first | trivial | (simp only [NamelessL, Nameless, and_self, and_true, true_and]; done) | (simp [NamelessL, Nameless, u32s_nameless, namelessL_ints]; done)) ?_
  refine of_eq (B := letI z10 := (dg (Nat.gcd (nv xs) (nv ys))); letI z0 := (D.ro (List.length z10) (u32s z10)); letI z1 := (Nat.gcd (gP xs ys) (gQ xs ys)); letI z2 := (18446744073709551616 : Int); letI z3 := ((z1 = z1) ∧ (((gQ xs ys) ≤ (gP xs ys)) ∧ ((gP xs ys) ≤ (gP xs ys)))); letI z4 := ([] : List (Option Blk)); letI z5 := (D.ro (List.length (dg (gP xs ys))) (u32s (dg (gP xs ys)))); letI z6 := (D.ro (List.length (dg (gQ xs ys))) (u32s (dg (gQ xs ys)))); letI z7 := (unu (u32s xs)); letI z8 := (D.ro (List.length ys) (u32s ys)); letI z9 := (D.ro (List.length xs) (u32s xs)); letI z11 := (unu (u32s ys)); letI z12 := Bool.true = Bool.true; (True ∧ (True ∧ (True ∧ (True ∧ (True ∧ (True ∧ (True ∧ (((((u32s ys) = (u32s z11)) ∧ ((List.length ys) = (List.length z11))) ∧ ((((u32s xs) = (u32s z7)) ∧ ((List.length xs) = (List.length z7))) ∧ ((List.length z7) ≤ (1000000000000 : Nat)))) ∧ (True ∧ (pcond (Decidable.decide ((cmpL z7 z11) < (0 : Int))) (True ∧ (True ∧ (True ∧ (True ∧ (z3 ∧ ((z12 ∧ ((z4 = z4) ∧ ((True ∧ (z8 = z5)) ∧ ((True ∧ (z9 = z6)) ∧ True)))) ∧ (∀ (r : (Prod Nat Nat)), (((((Nat.gcd (Prod.fst r) (Prod.snd r)) = z1) ∧ (((Prod.snd r) ≤ (Prod.fst r)) ∧ ((Prod.fst r) ≤ (gP xs ys)))) ∧ ((List.length (dg (Prod.snd r))) ≤ (2 : Nat))) → (True ∧ (True ∧ (True ∧ (pcond ((((List.length (dg (Prod.snd r))) : Nat) : Int) == (0 : Int)) (True ∧ (((((u32s (dg (Prod.fst r))) = (u32s (unu (u32s (dg (Prod.fst r)))))) ∧ ((List.length (dg (Prod.fst r))) = (List.length (unu (u32s (dg (Prod.fst r))))))) ∧ ((List.length (unu (u32s (dg (Prod.fst r))))) ≤ (1000000 : Nat))) ∧ (True ∧ (True ∧ (True ∧ ((D.ro (List.length (unu (u32s (dg (Prod.fst r))))) (u32s (unu (u32s (dg (Prod.fst r)))))) = z0)))))) (True ∧ (True ∧ ((((((u32s (dg (Prod.fst r))) = (u32s (unu (u32s (dg (Prod.fst r)))))) ∧ ((List.length (dg (Prod.fst r))) = (List.length (unu (u32s (dg (Prod.fst r))))))) ∧ (((u32s (dg (Prod.snd r))) = (u32s (unu (u32s (dg (Prod.snd r)))))) ∧ ((List.length (dg (Prod.snd r))) = (List.length (unu (u32s (dg (Prod.snd r)))))))) ∧ (dHyp (unu (u32s (dg (Prod.fst r)))) (unu (u32s (dg (Prod.snd r)))))) ∧ (True ∧ (True ∧ (True ∧ (True ∧ (True ∧ (True ∧ (((((u32s (dg (Prod.snd r))) = (u32s (unu (u32s (dg (Prod.snd r)))))) ∧ ((List.length (dg (Prod.snd r))) = (List.length (unu (u32s (dg (Prod.snd r))))))) ∧ (Dig (unu (u32s (dg (Prod.snd r)))))) ∧ (True ∧ (((((u32s (dg ((nv (unu (u32s (dg (Prod.fst r))))) % (nv (unu (u32s (dg (Prod.snd r)))))))) = (u32s (unu (u32s (dg ((nv (unu (u32s (dg (Prod.fst r))))) % (nv (unu (u32s (dg (Prod.snd r))))))))))) ∧ ((List.length (dg ((nv (unu (u32s (dg (Prod.fst r))))) % (nv (unu (u32s (dg (Prod.snd r)))))))) = (List.length (unu (u32s (dg ((nv (unu (u32s (dg (Prod.fst r))))) % (nv (unu (u32s (dg (Prod.snd r)))))))))))) ∧ (Dig (unu (u32s (dg ((nv (unu (u32s (dg (Prod.fst r))))) % (nv (unu (u32s (dg (Prod.snd r))))))))))) ∧ (((((0 : Int) ≤ (wordV (unu (u32s (dg (Prod.snd r)))))) ∧ ((wordV (unu (u32s (dg (Prod.snd r))))) < z2)) ∧ (((0 : Int) ≤ (wordV (unu (u32s (dg ((nv (unu (u32s (dg (Prod.fst r))))) % (nv (unu (u32s (dg (Prod.snd r))))))))))) ∧ ((wordV (unu (u32s (dg ((nv (unu (u32s (dg (Prod.fst r))))) % (nv (unu (u32s (dg (Prod.snd r)))))))))) < z2))) ∧ ((((0 : Int) ≤ (((Nat.gcd (Int.toNat (wordV (unu (u32s (dg (Prod.snd r)))))) (Int.toNat (wordV (unu (u32s (dg ((nv (unu (u32s (dg (Prod.fst r))))) % (nv (unu (u32s (dg (Prod.snd r)))))))))))) : Nat) : Int)) ∧ ((((Nat.gcd (Int.toNat (wordV (unu (u32s (dg (Prod.snd r)))))) (Int.toNat (wordV (unu (u32s (dg ((nv (unu (u32s (dg (Prod.fst r))))) % (nv (unu (u32s (dg (Prod.snd r)))))))))))) : Nat) : Int) < z2)) ∧ (True ∧ (True ∧ (True ∧ ((D.ro (List.length (dg (Int.toNat (((Nat.gcd (Int.toNat (wordV (unu (u32s (dg (Prod.snd r)))))) (Int.toNat (wordV (unu (u32s (dg ((nv (unu (u32s (dg (Prod.fst r))))) % (nv (unu (u32s (dg (Prod.snd r)))))))))))) : Nat) : Int)))) (u32s (dg (Int.toNat (((Nat.gcd (Int.toNat (wordV (unu (u32s (dg (Prod.snd r)))))) (Int.toNat (wordV (unu (u32s (dg ((nv (unu (u32s (dg (Prod.fst r))))) % (nv (unu (u32s (dg (Prod.snd r)))))))))))) : Nat) : Int))))) = z0)))))))))))))))))))))))))))))) (z3 ∧ ((z12 ∧ ((z4 = z4) ∧ ((True ∧ (z9 = z5)) ∧ ((True ∧ (z8 = z6)) ∧ True)))) ∧ (∀ (r : (Prod Nat Nat)), (((((Nat.gcd (Prod.fst r) (Prod.snd r)) = z1) ∧ (((Prod.snd r) ≤ (Prod.fst r)) ∧ ((Prod.fst r) ≤ (gP xs ys)))) ∧ ((List.length (dg (Prod.snd r))) ≤ (2 : Nat))) → (True ∧ (True ∧ (True ∧ (pcond ((((List.length (dg (Prod.snd r))) : Nat) : Int) == (0 : Int)) (True ∧ (((((u32s (dg (Prod.fst r))) = (u32s (unu (u32s (dg (Prod.fst r)))))) ∧ ((List.length (dg (Prod.fst r))) = (List.length (unu (u32s (dg (Prod.fst r))))))) ∧ ((List.length (unu (u32s (dg (Prod.fst r))))) ≤ (1000000 : Nat))) ∧ (True ∧ (True ∧ (True ∧ ((D.ro (List.length (unu (u32s (dg (Prod.fst r))))) (u32s (unu (u32s (dg (Prod.fst r)))))) = z0)))))) (True ∧ (True ∧ ((((((u32s (dg (Prod.fst r))) = (u32s (unu (u32s (dg (Prod.fst r)))))) ∧ ((List.length (dg (Prod.fst r))) = (List.length (unu (u32s (dg (Prod.fst r))))))) ∧ (((u32s (dg (Prod.snd r))) = (u32s (unu (u32s (dg (Prod.snd r)))))) ∧ ((List.length (dg (Prod.snd r))) = (List.length (unu (u32s (dg (Prod.snd r)))))))) ∧ (dHyp (unu (u32s (dg (Prod.fst r)))) (unu (u32s (dg (Prod.snd r)))))) ∧ (True ∧ (True ∧ (True ∧ (True ∧ (True ∧ (True ∧ (((((u32s (dg (Prod.snd r))) = (u32s (unu (u32s (dg (Prod.snd r)))))) ∧ ((List.length (dg (Prod.snd r))) = (List.length (unu (u32s (dg (Prod.snd r))))))) ∧ (Dig (unu (u32s (dg (Prod.snd r)))))) ∧ (True ∧ (((((u32s (dg ((nv (unu (u32s (dg (Prod.fst r))))) % (nv (unu (u32s (dg (Prod.snd r)))))))) = (u32s (unu (u32s (dg ((nv (unu (u32s (dg (Prod.fst r))))) % (nv (unu (u32s (dg (Prod.snd r))))))))))) ∧ ((List.length (dg ((nv (unu (u32s (dg (Prod.fst r))))) % (nv (unu (u32s (dg (Prod.snd r)))))))) = (List.length (unu (u32s (dg ((nv (unu (u32s (dg (Prod.fst r))))) % (nv (unu (u32s (dg (Prod.snd r)))))))))))) ∧ (Dig (unu (u32s (dg ((nv (unu (u32s (dg (Prod.fst r))))) % (nv (unu (u32s (dg (Prod.snd r))))))))))) ∧ (((((0 : Int) ≤ (wordV (unu (u32s (dg (Prod.snd r)))))) ∧ ((wordV (unu (u32s (dg (Prod.snd r))))) < z2)) ∧ (((0 : Int) ≤ (wordV (unu (u32s (dg ((nv (unu (u32s (dg (Prod.fst r))))) % (nv (unu (u32s (dg (Prod.snd r))))))))))) ∧ ((wordV (unu (u32s (dg ((nv (unu (u32s (dg (Prod.fst r))))) % (nv (unu (u32s (dg (Prod.snd r)))))))))) < z2))) ∧ ((((0 : Int) ≤ (((Nat.gcd (Int.toNat (wordV (unu (u32s (dg (Prod.snd r)))))) (Int.toNat (wordV (unu (u32s (dg ((nv (unu (u32s (dg (Prod.fst r))))) % (nv (unu (u32s (dg (Prod.snd r)))))))))))) : Nat) : Int)) ∧ ((((Nat.gcd (Int.toNat (wordV (unu (u32s (dg (Prod.snd r)))))) (Int.toNat (wordV (unu (u32s (dg ((nv (unu (u32s (dg (Prod.fst r))))) % (nv (unu (u32s (dg (Prod.snd r)))))))))))) : Nat) : Int) < z2)) ∧ (True ∧ (True ∧ (True ∧ ((D.ro (List.length (dg (Int.toNat (((Nat.gcd (Int.toNat (wordV (unu (u32s (dg (Prod.snd r)))))) (Int.toNat (wordV (unu (u32s (dg ((nv (unu (u32s (dg (Prod.fst r))))) % (nv (unu (u32s (dg (Prod.snd r)))))))))))) : Nat) : Int)))) (u32s (dg (Int.toNat (((Nat.gcd (Int.toNat (wordV (unu (u32s (dg (Prod.snd r)))))) (Int.toNat (wordV (unu (u32s (dg ((nv (unu (u32s (dg (Prod.fst r))))) % (nv (unu (u32s (dg (Prod.snd r)))))))))))) : Nat) : Int))))) = z0))))))))))))))))))))))))))))))))))))) (by kernel_rfl) ?_
  simp only [true_and, and_true, and_self, IsInt_lit, IsBool_lit, IsStr_lit, Bool.not_eq_true', Bool.not_eq_false', Bool.not_true, Bool.not_false, Int.reduceLE, Int.reduceLT, Int.reduceNeg, Nat.le_refl, Int.le_refl, Nat.reduceLT, Nat.reduceLeDiff, Nat.reduceEqDiff, D.v.injEq, D.tup.injEq, D.agg.injEq, D.ro.injEq, List.cons.injEq, Value.int.injEq, Value.bool.injEq, pcond_true, pcond_false, NamelessL, Nameless, Nat.reduceMul, Nat.reduceAdd, Nat.zero_add, Int.toNat_natCast, unu_u32s]
  obtain ⟨⟨hlen, hqp⟩, hgc⟩ := gc_facts hpre
  obtain ⟨⟨hx, hy⟩, gx, gy⟩ := hpre
  rw [← hgc, cmp_canon gx gy]
  have rest : ∀ r : Nat × Nat, (r.fst.gcd r.snd = (gP xs ys).gcd (gQ xs ys) ∧ r.snd ≤ r.fst ∧ r.fst ≤ gP xs ys) ∧ (dg r.snd).length ≤ 2 →
      pcond (((dg r.snd).length : Int) == 0)
        ((dg r.fst).length ≤ 1000000 ∧ (dg r.fst).length = (dg ((gP xs ys).gcd (gQ xs ys))).length ∧ u32s (dg r.fst) = u32s (dg ((gP xs ys).gcd (gQ xs ys))))
        (dHyp (dg r.fst) (dg r.snd) ∧ Dig (dg r.snd) ∧ Dig (dg (nv (dg r.fst) % nv (dg r.snd))) ∧
          ((0 ≤ wordV (dg r.snd) ∧ wordV (dg r.snd) < 18446744073709551616) ∧ 0 ≤ wordV (dg (nv (dg r.fst) % nv (dg r.snd))) ∧ wordV (dg (nv (dg r.fst) % nv (dg r.snd))) < 18446744073709551616) ∧
          (0 ≤ (((wordV (dg r.snd)).toNat.gcd (wordV (dg (nv (dg r.fst) % nv (dg r.snd)))).toNat : Nat) : Int) ∧ (((wordV (dg r.snd)).toNat.gcd (wordV (dg (nv (dg r.fst) % nv (dg r.snd)))).toNat : Nat) : Int) < 18446744073709551616) ∧
          (dg ((wordV (dg r.snd)).toNat.gcd (wordV (dg (nv (dg r.fst) % nv (dg r.snd)))).toNat)).length = (dg ((gP xs ys).gcd (gQ xs ys))).length ∧
          u32s (dg ((wordV (dg r.snd)).toNat.gcd (wordV (dg (nv (dg r.fst) % nv (dg r.snd)))).toNat)) = u32s (dg ((gP xs ys).gcd (gQ xs ys)))) := by
    rintro ⟨a, b⟩ ⟨⟨hg, hle, hp⟩, h2⟩
    simp only at hg hle hp h2 ⊢
    have m1 := dg_len_mono hp
    refine pcond_intro (fun h => ?_) (fun h => ?_)
    · have h0 : (dg b).length = 0 := by simp at h; simp [h]
      have hb : b = 0 := by
        have := nv_dg b
        rw [List.length_eq_zero_iff.1 h0] at this
        simpa [nv] using this.symm
      subst hb
      rw [Nat.gcd_zero_right] at hg
      rw [← hg]
      exact ⟨by omega, rfl, rfl⟩
    · have hb : 0 < b := by
        rcases Nat.eq_zero_or_pos b with h0 | h0
        · subst h0; rw [dg_zero] at h; simp at h
        · exact h0
      have m2 := dg_len_mono hle
      have m3 := dg_len_mono (Nat.le_of_lt (Nat.mod_lt a hb))
      have e1 := word_dg h2
      have e2 := word_dg (v := a % b) (by omega)
      have lb := nv_lt (dg_dig b)
      rw [nv_dg] at lb
      have lp := Nat.pow_le_pow_right (show 0 < 4294967296 by decide) h2
      have e : (4294967296 : Nat) ^ 2 = 18446744073709551616 := by decide
      rw [e] at lp
      have hm := Nat.mod_lt a hb
      have hgl := Nat.gcd_le_left (a % b) hb
      have eg : b.gcd (a % b) = a.gcd b := by rw [Nat.gcd_comm b, ← Nat.gcd_rec b a, Nat.gcd_comm]
      rw [nv_dg, nv_dg, e1, e2, Int.toNat_natCast, Int.toNat_natCast, eg, hg]
      rw [eg, hg] at hgl
      refine ⟨⟨⟨⟨by omega, by omega⟩, by rw [nv_dg], by rw [nv_dg]⟩, by rw [nv_dg]; exact hb⟩, dg_dig _, dg_dig _, ⟨⟨by omega, by omega⟩, by omega, by omega⟩, ⟨by omega, by omega⟩, rfl, rfl⟩
  refine ⟨by omega, pcond_intro (fun h => ?_) (fun h => ?_)⟩
  · have hlt : nv xs < nv ys := by
      unfold cmpN at h
      refine Nat.lt_of_not_le fun hle => ?_
      rw [if_neg (by omega)] at h
      split at h <;> simp at h
    rw [show gP xs ys = nv ys by unfold gP; omega, show gQ xs ys = nv xs by unfold gQ; omega, ← gx, ← gy] at *
    exact ⟨by omega, ⟨⟨rfl, rfl⟩, rfl, rfl⟩, rest⟩
  · have hle : nv ys ≤ nv xs := by
      refine Nat.le_of_not_lt fun hlt => ?_
      unfold cmpN at h
      rw [if_pos hlt] at h
      simp at h
    rw [show gP xs ys = nv xs by unfold gP; omega, show gQ xs ys = nv ys by unfold gQ; omega, ← gx, ← gy] at *
    exact ⟨by omega, ⟨⟨rfl, rfl⟩, rfl, rfl⟩, rest⟩
noncomputable def ent_igcd : Ent := fun ds => match ds with
  | [.ro n_xs ys_xs, .ro n_ys ys_ys] => some (.ro (dg (Nat.gcd (nv (unu ys_xs)) (nv (unu ys_ys)))).length (u32s (dg (Nat.gcd (nv (unu ys_xs)) (nv (unu ys_ys))))), (ys_ys = u32s (unu ys_ys) ∧ n_ys = (unu ys_ys).length) ∧ (ys_xs = u32s (unu ys_xs) ∧ n_xs = (unu ys_xs).length) ∧ gcHyp (unu ys_xs) (unu ys_ys))
  | _ => none
theorem ent_igcd_ok : EntOk Try.prog 62 ent_igcd := by
  intro ds d c h hc; unfold ent_igcd at h; split at h
  · rename_i n_xs ys_xs n_ys ys_ys; obtain ⟨rfl, rfl⟩ := pair_inj h
    obtain ⟨⟨h1, h2⟩, hc⟩ := hc; subst h2; generalize (unu ys_ys) = ys at *; subst h1
    obtain ⟨⟨h1, h2⟩, hc⟩ := hc; subst h2; generalize (unu ys_xs) = xs at *; subst h1
    exact igcd_pure xs ys hc
  · cases h
end Go.Proofs.Ythnhfkpihbjddaa
end
