import Derived.Test.YthnhfkpihbjddaaZKv19
import Derived.Test.YthnhfkpihbjddaaZKv14
section
namespace Go.Proofs.Ythnhfkpihbjddaa
open Go.VD
set_option linter.unusedVariables false
set_option linter.unusedSimpArgs false
set_option maxRecDepth 100000
def lp_gcdwLoop (x0 y0 : Nat) : LoopO := loopRule (α := Nat × Nat) (β := Unit) [] (fun s => (s.1 < 18446744073709551616 ∧ s.2 < 18446744073709551616) ∧ Nat.gcd s.1 s.2 = Nat.gcd x0 y0) (fun s => [(0, .v (.int .u64 (s.1 : Int))), (1, .v (.int .u64 (s.2 : Int)))]) (fun _ => []) ((x0, y0)) (fun _ => True) (fun _ => (.exit 0, [(0, .v (.int .u64 (Nat.gcd x0 y0 : Nat)))], []))
theorem gcdwLoop_rule (x0 y0 : Nat) : LRuleP Try.prog Try.f105.ntmps (loopAt ((Try.f105.body).getD .skip) 1) (lp_gcdwLoop x0 y0) := by
  refine lrule_of (α := Nat × Nat) (β := Unit) (call := noCalls) (lp := fun _ => none) (N := 10) T_ok mixed noCalls_ok (fun s => s.2) (by kernel_rfl) (LpAllP.none _) ?_
  intro x hJ
  refine of_eq (B := letI z3 := (Exit.exit (0 : Nat)); letI z2 := ([] : List (Option Blk)); letI z0 := (Prod.mk z3 (Prod.mk [(Prod.mk (0 : Nat) (D.v (Value.int IntKind.u64 (((Nat.gcd x0 y0) : Nat) : Int))))] z2)); letI z1 := (((Prod.snd x) : Nat) : Int); letI z4 := (18446744073709551616 : Nat); letI z5 := (((Prod.fst x) : Nat) : Int); letI z6 := (List (Option Nat)); (True ∧ (True ∧ (pcond (z1 != (0 : Int)) (True ∧ (True ∧ (True ∧ ((z1 ≠ (0 : Int)) ∧ (True ∧ (True ∧ ((Bool.true = Bool.true) ∧ (∃ (y : (Prod Nat Nat)), (∃ (kp : z6), (((Prod.snd y) < (Prod.snd x)) ∧ (((((Prod.fst y) < z4) ∧ ((Prod.snd y) < z4)) ∧ ((Nat.gcd (Prod.fst y) (Prod.snd y)) = (Nat.gcd x0 y0))) ∧ (viewAll kp [(Prod.mk (0 : Nat) (D.v (Value.int IntKind.u64 z1))), (Prod.mk (1 : Nat) (D.v (Value.int IntKind.u64 (Int.tmod z5 z1))))] z2 [(Prod.mk (0 : Nat) (D.v (Value.int IntKind.u64 (((Prod.fst y) : Nat) : Int)))), (Prod.mk (1 : Nat) (D.v (Value.int IntKind.u64 (((Prod.snd y) : Nat) : Int))))] z2)))))))))))) (∃ (r : Unit), (∃ (kp : z6), (True ∧ ((z3 = z3) ∧ (viewAll kp [(Prod.mk (0 : Nat) (D.v (Value.int IntKind.u64 z5)))] z2 (Prod.fst (Prod.snd ((fun (x_1 : Unit) => z0) r))) (Prod.snd (Prod.snd ((fun (x_1 : Unit) => z0) r)))))))))))) (by kernel_rfl) ?_
  obtain ⟨a, b⟩ := x
  obtain ⟨⟨ha, hb⟩, hg⟩ := hJ
  simp only [true_and, and_true, and_self, IsInt_lit, IsBool_lit, IsStr_lit, Bool.not_eq_true', Bool.not_eq_false', Bool.not_true, Bool.not_false, Int.reduceLE, Int.reduceLT, Int.reduceNeg, Nat.le_refl, Int.le_refl, Nat.reduceLT, Nat.reduceLeDiff, Nat.reduceEqDiff, D.v.injEq, D.tup.injEq, D.agg.injEq, D.ro.injEq, List.cons.injEq, Value.int.injEq, Value.bool.injEq, pcond_true, pcond_false, NamelessL, Nameless, Nat.reduceMul, Nat.reduceAdd, Nat.zero_add, Int.toNat_natCast] at *
  refine pcond_intro (fun h => ?_) (fun h => ?_)
  · have hb0 : b ≠ 0 := by simpa using h
    have hm := Nat.mod_lt a (show 0 < b by omega)
    refine ⟨by omega, (b, a % b), [], by simp only; omega, ⟨⟨hb, by simp only; omega⟩, ?_⟩, ?_⟩
    · simp only
      rw [← hg, Nat.gcd_comm a b, Nat.gcd_rec b a, Nat.gcd_comm]
    · have e : (a : Int).tmod (b : Int) = ((a % b : Nat) : Int) := by rw [Int.tmod_eq_emod_of_nonneg (by omega), ← Int.natCast_emod]
      rw [e]
      refine of_eq (B := letI z0 := (D.v (Value.int IntKind.u64 (((a % b) : Nat) : Int))); letI z1 := (D.v (Value.int IntKind.u64 ((b : Nat) : Int))); letI z2 := ([] : List (Option Blk)); ((Bool.true = Bool.true) ∧ ((z2 = z2) ∧ ((True ∧ (z1 = z1)) ∧ ((True ∧ (z0 = z0)) ∧ True))))) (by kernel_rfl) ?_
      simp
  · have hb0 : b = 0 := by simpa using h
    subst hb0
    rw [Nat.gcd_zero_right] at hg
    rw [← hg]
    refine ⟨(), [], ?_⟩
    refine of_eq (B := letI z0 := (D.v (Value.int IntKind.u64 ((a : Nat) : Int))); letI z1 := ([] : List (Option Blk)); ((Bool.true = Bool.true) ∧ ((z1 = z1) ∧ ((True ∧ (z0 = z0)) ∧ True)))) (by kernel_rfl) ?_
    simp
theorem igcdw_pure (x y : Int) (hpre : (0 ≤ x ∧ x < 18446744073709551616) ∧ 0 ≤ y ∧ y < 18446744073709551616) : PureJ Try.prog 105 [.v (.int .u64 x), .v (.int .u64 y)] (.v (.int .u64 (Nat.gcd x.toNat y.toNat : Nat))) := by
  refine pureJ_of_vcp (call := noCalls) (lp := fun k => bif Nat.beq k 1 then some (lp_gcdwLoop x.toNat y.toNat) else none) (N := 10) T_ok mixed noCalls_ok Try.func105 rfl (by decide) (by kernel_rfl) (by kernel_rfl) (of_eq (B := LRuleP Try.prog Try.f105.ntmps (loopAt ((Try.f105.body).getD .skip) 1) (lp_gcdwLoop x.toNat y.toNat) ∧ True) (by kernel_rfl) ⟨gcdwLoop_rule x.toNat y.toNat, trivial⟩) (by first | trivial | (simp only [NamelessL, Nameless, and_self, and_true, true_and]; done) | (simp [NamelessL, Nameless, u32s_nameless, namelessL_ints]; done)) (by first | trivial | (simp only [NamelessL, Nameless, and_self, and_true, true_and]; done) | (simp [NamelessL, Nameless, u32s_nameless, namelessL_ints]; done)) ?_
  refine of_eq (B := letI z0 := (Nat.gcd (Int.toNat x) (Int.toNat y)); letI z1 := (D.v (Value.int IntKind.u64 ((z0 : Nat) : Int))); letI z2 := (18446744073709551616 : Nat); letI z3 := ([] : List (Option Blk)); (True ∧ (((((Int.toNat x) < z2) ∧ ((Int.toNat y) < z2)) ∧ (z0 = z0)) ∧ (((Bool.true = Bool.true) ∧ ((z3 = z3) ∧ ((True ∧ ((D.v (Value.int IntKind.u64 x)) = (D.v (Value.int IntKind.u64 (((Int.toNat x) : Nat) : Int))))) ∧ ((True ∧ ((D.v (Value.int IntKind.u64 y)) = (D.v (Value.int IntKind.u64 (((Int.toNat y) : Nat) : Int))))) ∧ True)))) ∧ (Unit → (True → (True ∧ (True ∧ (True ∧ (True ∧ (z1 = z1))))))))))) (by kernel_rfl) ?_
  obtain ⟨⟨hx0, hx⟩, hy0, hy⟩ := hpre
  obtain ⟨x, rfl⟩ := Int.eq_ofNat_of_zero_le hx0
  obtain ⟨y, rfl⟩ := Int.eq_ofNat_of_zero_le hy0
  simp only [true_and, and_true, and_self, IsInt_lit, IsBool_lit, IsStr_lit, Bool.not_eq_true', Bool.not_eq_false', Bool.not_true, Bool.not_false, Int.reduceLE, Int.reduceLT, Int.reduceNeg, Nat.le_refl, Int.le_refl, Nat.reduceLT, Nat.reduceLeDiff, Nat.reduceEqDiff, D.v.injEq, D.tup.injEq, D.agg.injEq, D.ro.injEq, List.cons.injEq, Value.int.injEq, Value.bool.injEq, pcond_true, pcond_false, NamelessL, Nameless, Nat.reduceMul, Nat.reduceAdd, Nat.zero_add, Int.toNat_natCast, Int.ofNat_eq_natCast] at *
  exact ⟨⟨by omega, by omega⟩, fun _ _ => trivial⟩
def ent_igcdw : Ent := fun ds => match ds with
  | [.v (.int .u64 x), .v (.int .u64 y)] => some (.v (.int .u64 (Nat.gcd x.toNat y.toNat : Nat)), (0 ≤ x ∧ x < 18446744073709551616) ∧ 0 ≤ y ∧ y < 18446744073709551616)
  | _ => none
theorem ent_igcdw_ok : EntOk Try.prog 105 ent_igcdw := by
  intro ds d c h hc; unfold ent_igcdw at h; split at h
  · obtain ⟨rfl, rfl⟩ := pair_inj h; exact igcdw_pure _ _ hc
  · cases h
theorem window_val {xs : List Nat} {n : Nat} (hd : Dig xs) (hv : nv xs < 4611686018427387904 * 2 ^ n) :
    (xs.getD (n / 32) 0 + 4294967296 * xs.getD (n / 32 + 1) 0) / 2 ^ (n % 32) < 2 ^ (64 - n % 32) ∧ nv xs / 2 ^ n < 4611686018427387904 ∧
    (xs.getD (n / 32) 0 + 4294967296 * xs.getD (n / 32 + 1) 0) / 2 ^ (n % 32) + xs.getD (n / 32 + 2) 0 * 2 ^ (64 - n % 32) = nv xs / 2 ^ n := by
  have d0 := hd.get (n / 32)
  have d1 := hd.get (n / 32 + 1)
  have hp : 0 < 2 ^ (n % 32) := Nat.pow_pos (by decide)
  have hpn : 0 < 2 ^ n := Nat.pow_pos (by decide)
  have e64 : (18446744073709551616 : Nat) = 2 ^ (n % 32) * 2 ^ (64 - n % 32) := by rw [← Nat.pow_add, show n % 32 + (64 - n % 32) = 64 by omega]
  have en : 2 ^ n = 4294967296 ^ (n / 32) * 2 ^ (n % 32) := by
    rw [show (4294967296 : Nat) = 2 ^ 32 by rfl, ← Nat.pow_mul, ← Nat.pow_add]
    congr 1; omega
  have hlt : nv xs / 2 ^ n < 4611686018427387904 := by rw [Nat.div_lt_iff_lt_mul hpn]; exact hv
  have ediv : nv xs / 2 ^ n = nv (xs.drop (n / 32)) / 2 ^ (n % 32) := by
    by_cases hl : n / 32 ≤ xs.length
    · rw [en, ← Nat.div_div_eq_div_mul, ← nv_drop_div hd hl]
    · rw [nv_drop_ge (by omega)]
      have h1 : nv xs < 2 ^ n := by
        have := nv_lt hd
        have h2 := Nat.pow_le_pow_right (show 0 < 4294967296 by decide) (show xs.length ≤ n / 32 by omega)
        have h3 : 4294967296 ^ (n / 32) * 1 ≤ 4294967296 ^ (n / 32) * 2 ^ (n % 32) := Nat.mul_le_mul_left _ hp
        rw [en]; omega
      rw [Nat.div_eq_of_lt h1]; simp
  have e3 : nv (xs.drop (n / 32)) = (xs.getD (n / 32) 0 + 4294967296 * xs.getD (n / 32 + 1) 0) + 18446744073709551616 * nv (xs.drop (n / 32 + 2)) := by
    rw [nv_drop_succ, nv_drop_succ xs (n / 32 + 1), show n / 32 + 1 + 1 = n / 32 + 2 by omega]; omega
  have hlow : (xs.getD (n / 32) 0 + 4294967296 * xs.getD (n / 32 + 1) 0) / 2 ^ (n % 32) < 2 ^ (64 - n % 32) := by
    rw [Nat.div_lt_iff_lt_mul hp, Nat.mul_comm (2 ^ (64 - n % 32)), ← e64]; omega
  have e4 : nv xs / 2 ^ n = (xs.getD (n / 32) 0 + 4294967296 * xs.getD (n / 32 + 1) 0) / 2 ^ (n % 32) + 2 ^ (64 - n % 32) * nv (xs.drop (n / 32 + 2)) := by
    rw [ediv, e3, e64, Nat.mul_assoc, Nat.add_mul_div_left _ _ hp]
  have hrest : nv (xs.drop (n / 32 + 2)) = xs.getD (n / 32 + 2) 0 := by
    rw [nv_drop_succ]
    have h5 : nv (xs.drop (n / 32 + 2)) < 4294967296 := by
      refine Nat.lt_of_not_le fun hge => ?_
      have h6 : 2 ^ (64 - n % 32) * 4294967296 ≤ 2 ^ (64 - n % 32) * nv (xs.drop (n / 32 + 2)) := Nat.mul_le_mul_left _ hge
      have h7 : 8589934592 ≤ 2 ^ (64 - n % 32) := Nat.pow_le_pow_right (show 0 < 2 by decide) (show 33 ≤ 64 - n % 32 by omega)
      rw [e4] at hlt
      generalize (xs.getD (n / 32) 0 + 4294967296 * xs.getD (n / 32 + 1) 0) / 2 ^ (n % 32) = L at *
      generalize 2 ^ (64 - n % 32) * nv (xs.drop (n / 32 + 2)) = W at *
      generalize 2 ^ (64 - n % 32) = V at *
      omega
    rw [nv_drop_succ] at h5
    omega
  refine ⟨hlow, hlt, ?_⟩
  rw [e4, hrest, Nat.mul_comm (2 ^ (64 - n % 32))]
theorem iwindow_pure (xs : List Nat) (n : Int) (hpre : (xs.length ≤ 1000000 ∧ Dig xs) ∧ (0 ≤ n ∧ n < 64000000) ∧ nv xs < 4611686018427387904 * 2 ^ n.toNat) : PureJ Try.prog 125 [.ro xs.length (u32s xs), .v (.int .i64 n)] (.v (.int .i64 (nv xs / 2 ^ n.toNat : Nat))) := by
  refine pureJ_of_vcx (call := (addPure 96 ent_iat noCalls)) (lp := fun _ => none) (N := 10) T_ok mixed (addPure_ok ent_iat_ok noCalls_ok) Try.func125 rfl (by decide) (by kernel_rfl) (by kernel_rfl) (LpAll.none _) (by first | trivial | (simp only [NamelessL, Nameless, and_self, and_true, true_and]; done) | (simp [NamelessL, Nameless, u32s_nameless, namelessL_ints]; done)) (by first | trivial | (simp only [NamelessL, Nameless, and_self, and_true, true_and]; done) | (simp [NamelessL, Nameless, u32s_nameless, namelessL_ints]; done)) ?_
  refine of_eq (B := letI z0 := (IntKind.wrap IntKind.i64 (Int.tdiv n (32 : Int))); letI z3 := (unu (u32s xs)); letI z1 := (((u32s xs) = (u32s z3)) ∧ ((List.length xs) = (List.length z3))); letI z5 := (Int.tmod n (32 : Int)); letI z2 := (IntKind.wrap IntKind.i64 ((64 : Int) - z5)); letI z4 := (IntKind.wrap IntKind.i64 (z0 + (1 : Int))); letI z6 := (IntKind.wrap IntKind.i64 (z0 + (2 : Int))); letI z7 := ((32 : Int) ≠ (0 : Int)); (True ∧ (True ∧ (z7 ∧ (True ∧ (z7 ∧ (True ∧ (True ∧ (True ∧ (True ∧ (True ∧ ((z1 ∧ ((0 : Int) ≤ z4)) ∧ (True ∧ (((0 : Int) ≤ (32 : Int)) ∧ (True ∧ (True ∧ ((z1 ∧ ((0 : Int) ≤ z0)) ∧ (True ∧ (True ∧ (True ∧ (True ∧ (True ∧ (((0 : Int) ≤ z5) ∧ (True ∧ (True ∧ (True ∧ ((z1 ∧ ((0 : Int) ≤ z6)) ∧ (True ∧ (True ∧ (True ∧ (((0 : Int) ≤ z2) ∧ (True ∧ (True ∧ (True ∧ ((Bool.true = Bool.true) ∧ (True ∧ (True ∧ ((D.v (Value.int IntKind.i64 (IntKind.wrap IntKind.i64 (bits BinOp.or IntKind.u64 (Int.fdiv (bits BinOp.or IntKind.u64 (IntKind.wrap IntKind.u64 ((IntKind.wrap IntKind.u64 (((List.getD z3 (Int.toNat z4) (0 : Nat)) : Nat) : Int)) * (4294967296 : Int))) (IntKind.wrap IntKind.u64 (((List.getD z3 (Int.toNat z0) (0 : Nat)) : Nat) : Int))) ((2 : Int) ^ (Min.min (Int.toNat z5) (64 : Nat)))) (IntKind.wrap IntKind.u64 ((IntKind.wrap IntKind.u64 (((List.getD z3 (Int.toNat z6) (0 : Nat)) : Nat) : Int)) * ((2 : Int) ^ (Min.min (Int.toNat z2) (64 : Nat))))))))) = (D.v (Value.int IntKind.i64 ((((nv xs) / ((2 : Nat) ^ (Int.toNat n))) : Nat) : Int))))))))))))))))))))))))))))))))))))))))) (by kernel_rfl) ?_
  obtain ⟨⟨hb, hd⟩, ⟨hn0, hn⟩, hv⟩ := hpre
  obtain ⟨n, rfl⟩ := Int.eq_ofNat_of_zero_le hn0
  simp only [Int.toNat_natCast, Int.ofNat_eq_natCast] at hv hn
  have e1 : (n : Int).tdiv 32 = ((n / 32 : Nat) : Int) := by rw [Int.tdiv_eq_ediv_of_nonneg (by omega)]; omega
  have e2 : (n : Int).tmod 32 = ((n % 32 : Nat) : Int) := by rw [Int.tmod_eq_emod_of_nonneg (by omega)]; omega
  have w1 : IntKind.i64.wrap ((n / 32 : Nat) : Int) = ((n / 32 : Nat) : Int) := wrap_i64_of (by omega) (by omega)
  have w2 : IntKind.i64.wrap (((n / 32 : Nat) : Int) + 1) = ((n / 32 + 1 : Nat) : Int) := by rw [wrap_i64_of (by omega) (by omega)]; omega
  have w3 : IntKind.i64.wrap (((n / 32 : Nat) : Int) + 2) = ((n / 32 + 2 : Nat) : Int) := by rw [wrap_i64_of (by omega) (by omega)]; omega
  have w4 : IntKind.i64.wrap (64 - ((n % 32 : Nat) : Int)) = ((64 - n % 32 : Nat) : Int) := by rw [wrap_i64_of (by omega) (by omega)]; omega
  have d0 := hd.get (n / 32)
  have d1 := hd.get (n / 32 + 1)
  have d2 := hd.get (n / 32 + 2)
  have hw := window_val (xs := xs) (n := n) hd hv
  simp only [true_and, and_true, and_self, IsInt_lit, IsBool_lit, IsStr_lit, Bool.not_eq_true', Bool.not_eq_false', Bool.not_true, Bool.not_false, Int.reduceLE, Int.reduceLT, Int.reduceNeg, Nat.le_refl, Int.le_refl, Nat.reduceLT, Nat.reduceLeDiff, Nat.reduceEqDiff, D.v.injEq, D.tup.injEq, D.agg.injEq, D.ro.injEq, List.cons.injEq, Value.int.injEq, Value.bool.injEq, pcond_true, pcond_false, NamelessL, Nameless, Nat.reduceMul, Nat.reduceAdd, Nat.zero_add, Int.toNat_natCast, unu_u32s, Int.ofNat_eq_natCast, e1, e2, w1, w2, w3, w4, show min (n % 32) 64 = n % 32 by omega, show min (64 - n % 32) 64 = 64 - n % 32 by omega]
  have hor : Go.bits BinOp.or IntKind.u64 (IntKind.u64.wrap (IntKind.u64.wrap ((xs.getD (n / 32 + 1) 0 : Nat) : Int) * 4294967296)) (IntKind.u64.wrap ((xs.getD (n / 32) 0 : Nat) : Int)) = ((xs.getD (n / 32) 0 + 4294967296 * xs.getD (n / 32 + 1) 0 : Nat) : Int) := by
    have := or_shift d1 d0
    rwa [wrap_u64_of (n := ((xs.getD (n / 32 + 1) 0 : Nat) : Int)) (by omega) (by omega)]
  rw [hor]
  obtain ⟨h1, h2, h3⟩ := hw
  have hfd : ∀ a : Nat, (a : Int).fdiv (2 ^ (n % 32)) = ((a / 2 ^ (n % 32) : Nat) : Int) := fun a => by
    rw [Int.fdiv_eq_ediv_of_nonneg _ (Int.le_of_lt (Int.pow_pos (by decide))), Int.natCast_ediv]; simp
  have h4 : xs.getD (n / 32 + 2) 0 * 2 ^ (64 - n % 32) < 4611686018427387904 := by
    generalize (xs.getD (n / 32) 0 + 4294967296 * xs.getD (n / 32 + 1) 0) / 2 ^ (n % 32) = L at *
    generalize xs.getD (n / 32 + 2) 0 * 2 ^ (64 - n % 32) = W at *
    generalize nv xs / 2 ^ n = Q at *
    omega
  have hsh : IntKind.u64.wrap (IntKind.u64.wrap ((xs.getD (n / 32 + 2) 0 : Nat) : Int) * 2 ^ (64 - n % 32)) = ((xs.getD (n / 32 + 2) 0 * 2 ^ (64 - n % 32) : Nat) : Int) := by
    rw [wrap_u64_of (n := ((xs.getD (n / 32 + 2) 0 : Nat) : Int)) (by omega) (by omega)]
    have : ((xs.getD (n / 32 + 2) 0 : Nat) : Int) * 2 ^ (64 - n % 32) = ((xs.getD (n / 32 + 2) 0 * 2 ^ (64 - n % 32) : Nat) : Int) := by simp
    rw [this]
    generalize xs.getD (n / 32 + 2) 0 * 2 ^ (64 - n % 32) = W at *
    exact wrap_u64_of (by omega) (by omega)
  have h5 : (xs.getD (n / 32) 0 + 4294967296 * xs.getD (n / 32 + 1) 0) / 2 ^ (n % 32) < 18446744073709551616 := by
    have := Nat.div_le_self (xs.getD (n / 32) 0 + 4294967296 * xs.getD (n / 32 + 1) 0) (2 ^ (n % 32))
    omega
  have hfin : IntKind.i64.wrap (Go.bits BinOp.or IntKind.u64 (((xs.getD (n / 32) 0 + 4294967296 * xs.getD (n / 32 + 1) 0 : Nat) : Int).fdiv (2 ^ (n % 32))) (IntKind.u64.wrap (IntKind.u64.wrap ((xs.getD (n / 32 + 2) 0 : Nat) : Int) * 2 ^ (64 - n % 32)))) = ((nv xs / 2 ^ n : Nat) : Int) := by
    rw [hfd, hsh, bits_or_u64_nat _ _ h5 (by omega), Nat.or_comm, ← Nat.shiftLeft_eq, ← Nat.shiftLeft_add_eq_or_of_lt h1, Nat.shiftLeft_eq, Nat.add_comm (_ * _), h3]
    generalize nv xs / 2 ^ n = Q at *
    exact wrap_i64_of (by omega) (by omega)
  refine ⟨by omega, by omega, by omega, by omega, by omega, by omega, by omega, hfin⟩
def ent_iwindow : Ent := fun ds => match ds with
  | [.ro n_xs ys_xs, .v (.int .i64 n)] => some (.v (.int .i64 (nv (unu ys_xs) / 2 ^ n.toNat : Nat)), (ys_xs = u32s (unu ys_xs) ∧ n_xs = (unu ys_xs).length) ∧ ((unu ys_xs).length ≤ 1000000 ∧ Dig (unu ys_xs)) ∧ (0 ≤ n ∧ n < 64000000) ∧ nv (unu ys_xs) < 4611686018427387904 * 2 ^ n.toNat)
  | _ => none
theorem ent_iwindow_ok : EntOk Try.prog 125 ent_iwindow := by
  intro ds d c h hc; unfold ent_iwindow at h; split at h
  · rename_i n_xs ys_xs n; obtain ⟨rfl, rfl⟩ := pair_inj h
    obtain ⟨⟨h1, h2⟩, hc⟩ := hc; subst h2; generalize (unu ys_xs) = xs at *; subst h1
    exact iwindow_pure xs _ hc
  · cases h
def cbU (us vs : List Nat) (a b : Int) (i : Nat) : Int := a * (nv (us.take i) : Nat) + b * (nv (vs.take i) : Nat)
def cbT (us vs : List Nat) (a b : Int) (i : Nat) : List Nat := dgn i (cbU us vs a b i % 4294967296 ^ i).toNat ++ List.replicate (us.length - i) 0
def cbHyp (us vs : List Nat) (a b : Int) : Prop := ((us.length ≤ 1000000 ∧ vs.length ≤ us.length) ∧ Dig us ∧ Dig vs) ∧ ((-1073741824 < a ∧ a < 1073741824) ∧ -1073741824 < b ∧ b < 1073741824) ∧ ((0 ≤ a ∧ b ≤ 0) ∨ (a ≤ 0 ∧ 0 ≤ b))
theorem cbT_length (us vs : List Nat) (a b : Int) {i : Nat} (h : i ≤ us.length) : (cbT us vs a b i).length = us.length := by simp [cbT, dgn_length]; omega
theorem cb_bound {us vs : List Nat} {a b : Int} {i : Nat} (hu : Dig us) (hv : Dig vs) (hab : (-1073741824 < a ∧ a < 1073741824) ∧ -1073741824 < b ∧ b < 1073741824) (hsg : (0 ≤ a ∧ b ≤ 0) ∨ (a ≤ 0 ∧ 0 ≤ b)) :
    -1073741824 ≤ cbU us vs a b i / 4294967296 ^ i ∧ cbU us vs a b i / 4294967296 ^ i ≤ 1073741824 := by
  have hP : (0 : Int) < 4294967296 ^ i := Int.pow_pos (by decide)
  have bnd : ∀ xs : List Nat, Dig xs → ((nv (xs.take i) : Nat) : Int) ≤ 4294967296 ^ i := fun xs hx => by
    have h1 := nv_lt (hx.take i)
    have h2 := Nat.pow_le_pow_right (show 0 < 4294967296 by decide) (show (xs.take i).length ≤ i by simp; omega)
    have h3 : ((4294967296 ^ i : Nat) : Int) = 4294967296 ^ i := by simp
    rw [← h3]; omega
  have key : ∀ (c d : Int) (X Y : Int), 0 ≤ X → X ≤ 4294967296 ^ i → 0 ≤ Y → Y ≤ 4294967296 ^ i → 0 ≤ c → c < 1073741824 → d ≤ 0 → -1073741824 < d → -1073741824 ≤ (c * X + d * Y) / 4294967296 ^ i ∧ (c * X + d * Y) / 4294967296 ^ i ≤ 1073741824 := by
    intro c d X Y x0 x1 y0 y1 c0 c1 d0 d1
    have m1 := Int.mul_nonneg c0 x0
    have m2 := Int.mul_le_mul_of_nonneg_left x1 c0
    have m3 := Int.mul_le_mul_of_nonneg_right (show c ≤ 1073741824 by omega) (Int.le_of_lt hP)
    have n1 := Int.mul_nonneg (show 0 ≤ -d by omega) y0
    have n2 := Int.mul_le_mul_of_nonneg_left y1 (show 0 ≤ -d by omega)
    have n3 := Int.mul_le_mul_of_nonneg_right (show -d ≤ 1073741824 by omega) (Int.le_of_lt hP)
    simp only [Int.neg_mul] at n1 n2 n3
    refine ⟨?_, ?_⟩
    · rw [Int.le_ediv_iff_mul_le hP]; omega
    · refine Int.le_of_lt_add_one ((Int.ediv_lt_iff_lt_mul hP).2 ?_)
      rw [Int.add_mul]; omega
  have hx := bnd us hu
  have hy := bnd vs hv
  unfold cbU
  rcases hsg with ⟨s1, s2⟩ | ⟨s1, s2⟩
  · exact key a b _ _ (Int.natCast_nonneg _) hx (Int.natCast_nonneg _) hy s1 hab.1.2 s2 hab.2.1
  · rw [Int.add_comm]
    exact key b a _ _ (Int.natCast_nonneg _) hy (Int.natCast_nonneg _) hx s2 hab.2.2 s1 hab.1.1
theorem cb_prod {a : Int} {x : Nat} (ha : -1073741824 < a ∧ a < 1073741824) (hx : x < 4294967296) : (0 ≤ a → 0 ≤ a * (x : Int) ∧ a * (x : Int) ≤ 4611686018427387904) ∧ (a ≤ 0 → -4611686018427387904 ≤ a * (x : Int) ∧ a * (x : Int) ≤ 0) := by
  constructor
  · intro h
    have m1 := Int.mul_nonneg h (Int.natCast_nonneg x)
    have m2 := Int.mul_le_mul_of_nonneg_left (show (x : Int) ≤ 4294967296 by omega) h
    omega
  · intro h
    have m1 := Int.mul_nonneg (show 0 ≤ -a by omega) (Int.natCast_nonneg x)
    have m2 := Int.mul_le_mul_of_nonneg_left (show (x : Int) ≤ 4294967296 by omega) (show 0 ≤ -a by omega)
    simp only [Int.neg_mul] at m1 m2
    omega
theorem cb_step {us vs : List Nat} {a b : Int} {i : Nat} (hu : Dig us) (hv : Dig vs) (hab : (-1073741824 < a ∧ a < 1073741824) ∧ -1073741824 < b ∧ b < 1073741824) (hsg : (0 ≤ a ∧ b ≤ 0) ∨ (a ≤ 0 ∧ 0 ≤ b)) (h : i < us.length) :
    ((-4611686018427387904 ≤ a * ((us.getD i 0 : Nat) : Int) ∧ a * ((us.getD i 0 : Nat) : Int) ≤ 4611686018427387904) ∧ (-4611686018427387904 ≤ b * ((vs.getD i 0 : Nat) : Int) ∧ b * ((vs.getD i 0 : Nat) : Int) ≤ 4611686018427387904) ∧ -1073741824 ≤ cbU us vs a b i / 4294967296 ^ i ∧ cbU us vs a b i / 4294967296 ^ i ≤ 1073741824 ∧ -4611686018427387904 ≤ a * ((us.getD i 0 : Nat) : Int) + b * ((vs.getD i 0 : Nat) : Int) ∧ a * ((us.getD i 0 : Nat) : Int) + b * ((vs.getD i 0 : Nat) : Int) ≤ 4611686018427387904) ∧
    cbU us vs a b (i + 1) / 4294967296 ^ (i + 1) = (a * ((us.getD i 0 : Nat) : Int) + b * ((vs.getD i 0 : Nat) : Int) + cbU us vs a b i / 4294967296 ^ i) / 4294967296 ∧
    (cbT us vs a b i).set i ((a * ((us.getD i 0 : Nat) : Int) + b * ((vs.getD i 0 : Nat) : Int) + cbU us vs a b i / 4294967296 ^ i) % 4294967296).toNat = cbT us vs a b (i + 1) := by
  have hbd := cb_bound (i := i) hu hv hab hsg
  have p1 := cb_prod hab.1 (hu.get i)
  have p2 := cb_prod hab.2 (hv.get i)
  have hP : (0 : Int) < 4294967296 ^ i := Int.pow_pos (by decide)
  have eU : cbU us vs a b (i + 1) = cbU us vs a b i + 4294967296 ^ i * (a * ((us.getD i 0 : Nat) : Int) + b * ((vs.getD i 0 : Nat) : Int)) := by
    unfold cbU
    rw [nv_take_succ', nv_take_succ' vs]
    simp only [Int.natCast_add, Int.natCast_mul, Int.natCast_pow, Int.cast_ofNat_Int]
    generalize (4294967296 : Int) ^ i = P
    grind
  have hdm := Int.mul_ediv_add_emod (cbU us vs a b i) (4294967296 ^ i)
  have hr0 := Int.emod_nonneg (cbU us vs a b i) (show (4294967296 : Int) ^ i ≠ 0 by omega)
  have hr1 := Int.emod_lt_of_pos (cbU us vs a b i) hP
  have ediv : cbU us vs a b (i + 1) / 4294967296 ^ i = a * ((us.getD i 0 : Nat) : Int) + b * ((vs.getD i 0 : Nat) : Int) + cbU us vs a b i / 4294967296 ^ i := by
    rw [eU, Int.add_mul_ediv_left _ _ (by omega)]; omega
  refine ⟨⟨by rcases hsg with ⟨s1, s2⟩ | ⟨s1, s2⟩ <;> omega, by rcases hsg with ⟨s1, s2⟩ | ⟨s1, s2⟩ <;> omega, hbd.1, hbd.2, by rcases hsg with ⟨s1, s2⟩ | ⟨s1, s2⟩ <;> omega⟩, ?_, ?_⟩
  · rw [Int.pow_succ, ← Int.ediv_ediv_of_nonneg (Int.le_of_lt hP), ediv]
  · generalize ht : a * ((us.getD i 0 : Nat) : Int) + b * ((vs.getD i 0 : Nat) : Int) + cbU us vs a b i / 4294967296 ^ i = t at *
    have hR : cbU us vs a b (i + 1) % 4294967296 ^ (i + 1) = cbU us vs a b i % 4294967296 ^ i + 4294967296 ^ i * (t % 4294967296) := by
      have e1 : cbU us vs a b (i + 1) = (cbU us vs a b i % 4294967296 ^ i + 4294967296 ^ i * (t % 4294967296)) + 4294967296 ^ i * 4294967296 * (t / 4294967296) := by
        have e2 : cbU us vs a b (i + 1) = cbU us vs a b i % 4294967296 ^ i + 4294967296 ^ i * t := by
          rw [eU, ← ht, Int.mul_add _ _ (cbU us vs a b i / 4294967296 ^ i)]
          omega
        rw [e2]
        have e3 := Int.mul_ediv_add_emod t 4294967296
        generalize (4294967296 : Int) ^ i = P at *
        generalize cbU us vs a b i % P = R at *
        rw [Int.add_assoc, Int.mul_assoc P, ← Int.mul_add P, show t % 4294967296 + 4294967296 * (t / 4294967296) = t by omega]
      have h0 := Int.emod_nonneg t (show (4294967296 : Int) ≠ 0 by decide)
      have h1 := Int.emod_lt_of_pos t (show (0 : Int) < 4294967296 by decide)
      have m1 := Int.mul_nonneg (Int.le_of_lt hP) h0
      have m2 := Int.mul_le_mul_of_nonneg_left (show t % 4294967296 + 1 ≤ 4294967296 by omega) (Int.le_of_lt hP)
      rw [Int.mul_add, Int.mul_one] at m2
      rw [Int.pow_succ, e1, Int.add_mul_emod_self_left, Int.emod_eq_of_lt (by omega) (by omega)]
    have h0 := Int.emod_nonneg t (show (4294967296 : Int) ≠ 0 by decide)
    have h1 := Int.emod_lt_of_pos t (show (0 : Int) < 4294967296 by decide)
    unfold cbT
    rw [hR]
    obtain ⟨r, er⟩ := Int.eq_ofNat_of_zero_le hr0
    obtain ⟨d, ed⟩ := Int.eq_ofNat_of_zero_le h0
    have hPn : ((4294967296 ^ i : Nat) : Int) = 4294967296 ^ i := by simp
    have hrl : r < 4294967296 ^ i := by
      have : ((r : Nat) : Int) < ((4294967296 ^ i : Nat) : Int) := by rw [hPn, ← er]; exact hr1
      exact Int.ofNat_lt.1 this
    rw [er, ed, ← hPn, ← Int.natCast_mul, ← Int.natCast_add, Int.toNat_natCast, Int.toNat_natCast, Int.toNat_natCast, dgn_succ, dgn_mod, Nat.add_mul_div_left _ _ (Nat.pow_pos (by decide)), Nat.div_eq_of_lt hrl, Nat.zero_add, Nat.mod_eq_of_lt (by omega),
      show us.length - i = us.length - (i + 1) + 1 by omega, List.replicate_succ, List.set_append_right _ _ (by rw [dgn_length]; omega), dgn_length, Nat.sub_self, List.set_cons_zero, List.append_assoc]
    rfl
def lp_combLoop (us vs : List Nat) (a b : Int) : LoopO := loopRule (α := Nat) (β := Unit) [some 0] (fun i => i ≤ us.length) (fun i => [(0, .ro us.length (u32s us)), (1, .ro vs.length (u32s vs)), (2, .v (.int .i64 a)), (3, .v (.int .i64 b)), (9, d_out us.length), (10, .v (.int .i64 (cbU us vs a b i / 4294967296 ^ i))), (17, .v (.int .i64 (us.length : Int))), (18, .v (.int .i64 (i : Int)))]) (fun i => d_blk (cbT us vs a b i)) (0) (fun _ => True) (fun _ => (.exit 0, [(9, d_out us.length)], d_blk (cbT us vs a b us.length)))
theorem combLoop_rule (us vs : List Nat) (a b : Int) (hpre : cbHyp us vs a b) : LRuleP Try.prog Try.f104.ntmps (loopAt ((Try.f104.body).getD .skip) 4) (lp_combLoop us vs a b) := by
  refine lrule_of (α := Nat) (β := Unit) (call := (addPure 96 ent_iat noCalls)) (lp := fun _ => none) (N := 10) T_ok mixed (addPure_ok ent_iat_ok noCalls_ok) (fun i => us.length - i) (by kernel_rfl) (LpAllP.none _) ?_
  intro x hJ
  refine of_eq (B := letI z2 := ((x : Nat) : Int); letI z3 := ((Int.toNat z2) * (1 : Nat)); letI z12 := (List.getD (u32s us) z3 (Inhabited.default)); letI z18 := (unu (u32s vs)); letI z16 := (4294967296 : Int); letI z0 := (IntKind.wrap IntKind.i64 ((IntKind.wrap IntKind.i64 ((IntKind.wrap IntKind.i64 (a * (IntKind.wrap IntKind.i64 (cellInt z12)))) + (IntKind.wrap IntKind.i64 (b * (IntKind.wrap IntKind.i64 (((List.getD z18 (Int.toNat z2) (0 : Nat)) : Nat) : Int)))))) + ((cbU us vs a b x) / (z16 ^ x)))); letI z1 := List.length us; letI z14 := (Exit.exit (0 : Nat)); letI z17 := (Prod.mk (9 : Nat) (d_out z1)); letI z4 := (Prod.mk z14 (Prod.mk [z17] (d_blk (cbT us vs a b z1)))); letI z5 := (Prod.mk (9 : Nat) (D.sl (0 : Nat) (0 : Nat) z1 (Cap.toEnd (1 : Nat)))); letI z15 := ((z1 : Nat) : Int); letI z6 := (Prod.mk (17 : Nat) (D.v (Value.int IntKind.i64 z15))); letI z7 := (Prod.mk (1 : Nat) (D.ro (List.length vs) (u32s vs))); letI z8 := (Prod.mk (2 : Nat) (D.v (Value.int IntKind.i64 a))); letI z9 := (Prod.mk (3 : Nat) (D.v (Value.int IntKind.i64 b))); letI z10 := (((0 : Int) ≤ z2) ∧ (z2 < z15)); letI z11 := (u32s (cbT us vs a b x)); letI z13 := (Prod.mk (0 : Nat) (D.ro z1 (u32s us))); letI z19 := (List (Option Nat)); (True ∧ (pcond (Decidable.decide (z2 < z15)) (True ∧ (True ∧ (True ∧ (True ∧ (True ∧ (z10 ∧ (((z3 < (List.length (u32s us))) ∧ (IsInt IntKind.u32 z12)) ∧ (True ∧ (True ∧ (True ∧ (True ∧ (True ∧ (((((u32s vs) = (u32s z18)) ∧ ((List.length vs) = (List.length z18))) ∧ ((0 : Int) ≤ z2)) ∧ (True ∧ (True ∧ (True ∧ (True ∧ (True ∧ (True ∧ ((Bool.true = Bool.true) ∧ (True ∧ (True ∧ (True ∧ (True ∧ (True ∧ (((0 : Int) ≤ (32 : Int)) ∧ (z10 ∧ ((((1 : Nat) = (1 : Nat)) ∧ ((((0 : Nat) + z3) + (1 : Nat)) ≤ (List.length z11))) ∧ (True ∧ (True ∧ (True ∧ (∃ (y : Nat), (∃ (kp : z19), (((z1 - y) < (z1 - x)) ∧ ((y ≤ z1) ∧ (viewAll kp [z13, z7, z8, z9, z5, (Prod.mk (10 : Nat) (D.v (Value.int IntKind.i64 (Int.fdiv z0 z16)))), z6, (Prod.mk (18 : Nat) (D.v (Value.int IntKind.i64 (IntKind.wrap IntKind.i64 (z2 + (1 : Int))))))] [(Option.some (Blk.mk (41 : Nat) (List.set z11 ((0 : Nat) + z3) (D.v (Value.int IntKind.u32 (IntKind.wrap IntKind.u32 z0)))) Bool.true))] [z13, z7, z8, z9, z17, (Prod.mk (10 : Nat) (D.v (Value.int IntKind.i64 ((cbU us vs a b y) / (z16 ^ y))))), z6, (Prod.mk (18 : Nat) (D.v (Value.int IntKind.i64 ((y : Nat) : Int))))] (d_blk (cbT us vs a b y)))))))))))))))))))))))))))))))))))))) (∃ (r : Unit), (∃ (kp : z19), (True ∧ ((z14 = z14) ∧ (viewAll kp [z5] [(Option.some (Blk.mk (41 : Nat) z11 Bool.true))] (Prod.fst (Prod.snd ((fun (x_1 : Unit) => z4) r))) (Prod.snd (Prod.snd ((fun (x_1 : Unit) => z4) r))))))))))) (by kernel_rfl) ?_
  obtain ⟨⟨⟨hb, hvl⟩, hu, hv⟩, hab, hsg⟩ := hpre
  simp only [true_and, and_true, and_self, IsInt_lit, IsBool_lit, IsStr_lit, Bool.not_eq_true', Bool.not_eq_false', Bool.not_true, Bool.not_false, Int.reduceLE, Int.reduceLT, Int.reduceNeg, Nat.le_refl, Int.le_refl, Nat.reduceLT, Nat.reduceLeDiff, Nat.reduceEqDiff, D.v.injEq, D.tup.injEq, D.agg.injEq, D.ro.injEq, List.cons.injEq, Value.int.injEq, Value.bool.injEq, pcond_true, pcond_false, NamelessL, Nameless, Nat.reduceMul, Nat.reduceAdd, Nat.zero_add, Int.toNat_natCast, unu_u32s]
  refine pcond_intro (fun h => ?_) (fun h => ⟨(), [some 0], ?_⟩)
  · simp only [decide_eq_true_eq] at h
    have h : x < us.length := by omega
    obtain ⟨c1, c2, c3⟩ := cb_step hu hv hab hsg h
    have d0 := hu.get x
    have d1 := hv.get x
    have hlen := cbT_length us vs a b (show x ≤ us.length by omega)
    have w1 : IntKind.i64.wrap ((x : Int) + 1) = ((x + 1 : Nat) : Int) := by rw [wrap_i64_of (by omega) (by omega)]; omega
    obtain ⟨⟨k1, k2⟩, ⟨k3, k4⟩, k5, k6, k7, k8⟩ := c1
    have ht : IntKind.i64.wrap (IntKind.i64.wrap (IntKind.i64.wrap (a * IntKind.i64.wrap ((us.getD x 0 : Nat) : Int)) + IntKind.i64.wrap (b * IntKind.i64.wrap ((vs.getD x 0 : Nat) : Int))) + cbU us vs a b x / 4294967296 ^ x) = a * ((us.getD x 0 : Nat) : Int) + b * ((vs.getD x 0 : Nat) : Int) + cbU us vs a b x / 4294967296 ^ x := by
      rw [wrap_i64_of (n := ((us.getD x 0 : Nat) : Int)) (by omega) (by omega), wrap_i64_of (n := ((vs.getD x 0 : Nat) : Int)) (by omega) (by omega), wrap_i64_of (n := a * ((us.getD x 0 : Nat) : Int)) (by omega) (by omega), wrap_i64_of (n := b * ((vs.getD x 0 : Nat) : Int)) (by omega) (by omega), wrap_i64_of (n := a * ((us.getD x 0 : Nat) : Int) + b * ((vs.getD x 0 : Nat) : Int)) (by omega) (by omega), wrap_i64_of (by omega) (by omega)]
    simp only [w1, Nat.mul_one, u32s_cell, u32s_length, hlen, u32s_isInt us x h, and_true, ht]
    have e1 : IntKind.u32.wrap (a * ((us.getD x 0 : Nat) : Int) + b * ((vs.getD x 0 : Nat) : Int) + cbU us vs a b x / 4294967296 ^ x) = (((a * ((us.getD x 0 : Nat) : Int) + b * ((vs.getD x 0 : Nat) : Int) + cbU us vs a b x / 4294967296 ^ x) % 4294967296).toNat : Int) := by
      rw [wrap_u32]; omega
    rw [e1, u32s_put, c3, Int.fdiv_eq_ediv_of_nonneg _ (by decide), ← c2]
    refine ⟨⟨by omega, by omega⟩, h, by omega, ⟨by omega, by omega⟩, by omega, x + 1, [some 0], by omega, by omega, ?_⟩
    refine of_eq (B := letI z3 := (x + (1 : Nat)); letI z0 := (D.v (Value.int IntKind.i64 ((cbU us vs a b z3) / ((4294967296 : Int) ^ z3)))); letI z10 := (u32s (cbT us vs a b z3)); letI z1 := (Option.some (Blk.mk (41 : Nat) z10 Bool.true)); letI z2 := List.length us; letI z4 := (D.sl (0 : Nat) (0 : Nat) z2 (Cap.toEnd (1 : Nat))); letI z5 := (D.v (Value.int IntKind.i64 ((z2 : Nat) : Int))); letI z6 := (D.v (Value.int IntKind.i64 ((z3 : Nat) : Int))); letI z7 := (D.ro (List.length vs) (u32s vs)); letI z8 := (D.v (Value.int IntKind.i64 a)); letI z9 := (D.v (Value.int IntKind.i64 b)); letI z11 := ([] : List (Option Blk)); letI z12 := (D.ro z2 (u32s us)); ((Bool.true = Bool.true) ∧ ((((z1 = z1) ∧ (NamelessL z10)) ∧ (z11 = z11)) ∧ ((True ∧ (z12 = z12)) ∧ ((True ∧ (z7 = z7)) ∧ ((True ∧ (z8 = z8)) ∧ ((True ∧ (z9 = z9)) ∧ ((True ∧ (z4 = z4)) ∧ ((True ∧ (z0 = z0)) ∧ ((True ∧ (z5 = z5)) ∧ ((True ∧ (z6 = z6)) ∧ True))))))))))) (by kernel_rfl) ?_
    simp [u32s_nameless]
  · simp only [decide_eq_false_iff_not] at h
    have h : x = us.length := by omega
    subst h
    refine of_eq (B := letI z2 := (u32s (cbT us vs a b (List.length us))); letI z0 := (Option.some (Blk.mk (41 : Nat) z2 Bool.true)); letI z1 := (D.sl (0 : Nat) (0 : Nat) (List.length us) (Cap.toEnd (1 : Nat))); letI z3 := ([] : List (Option Blk)); ((Bool.true = Bool.true) ∧ ((((z0 = z0) ∧ (NamelessL z2)) ∧ (z3 = z3)) ∧ ((True ∧ (z1 = z1)) ∧ True)))) (by kernel_rfl) ?_
    simp [u32s_nameless]
theorem cb_zero (us vs : List Nat) (a b : Int) : cbU us vs a b 0 = 0 ∧ cbT us vs a b 0 = List.replicate us.length 0 := by simp [cbU, cbT, nv, dgn]
theorem cb_end {us vs : List Nat} {a b : Int} (h : cbHyp us vs a b) (h0 : 0 ≤ a * (nv us : Nat) + b * (nv vs : Nat)) (h1 : a * (nv us : Nat) + b * (nv vs : Nat) ≤ (nv us : Nat)) : trimL (cbT us vs a b us.length) = dg (a * (nv us : Nat) + b * (nv vs : Nat)).toNat := by
  obtain ⟨⟨⟨hb, hvl⟩, hu, hv⟩, hab, hsg⟩ := h
  have e : cbU us vs a b us.length = a * (nv us : Nat) + b * (nv vs : Nat) := by
    unfold cbU
    rw [List.take_length, List.take_of_length_le hvl]
  have hlt := nv_lt hu
  have hP : ((4294967296 ^ us.length : Nat) : Int) = 4294967296 ^ us.length := by simp
  unfold cbT
  rw [e, ← hP]
  generalize a * (nv us : Nat) + b * (nv vs : Nat) = W at *
  obtain ⟨w, rfl⟩ := Int.eq_ofNat_of_zero_le h0
  have hw : w < 4294967296 ^ us.length := by omega
  rw [Int.emod_eq_of_lt (by omega) (by omega), Nat.sub_self, List.replicate_zero, List.append_nil]
  exact trimL_dgn (by simpa using hw)
theorem icombine_pure (us vs : List Nat) (a b : Int) (hpre : cbHyp us vs a b ∧ 0 ≤ a * (nv us : Nat) + b * (nv vs : Nat) ∧ a * (nv us : Nat) + b * (nv vs : Nat) ≤ (nv us : Nat)) : PureJ Try.prog 104 [.ro us.length (u32s us), .ro vs.length (u32s vs), .v (.int .i64 a), .v (.int .i64 b)] (.ro (dg (a * (nv us : Nat) + b * (nv vs : Nat)).toNat).length (u32s (dg (a * (nv us : Nat) + b * (nv vs : Nat)).toNat))) := by
  refine pureJ_of_vcpN (call := (addPure 89 ent_itrim noCalls)) (lp := fun k => bif Nat.beq k 4 then some (lp_combLoop us vs a b) else none) (N := 10) T_ok mixed (addPure_ok ent_itrim_ok noCalls_ok) Try.func104 rfl (by decide) (by kernel_rfl) (by kernel_rfl) (of_eq (B := LRuleP Try.prog Try.f104.ntmps (loopAt ((Try.f104.body).getD .skip) 4) (lp_combLoop us vs a b) ∧ True) (by kernel_rfl) ⟨combLoop_rule us vs a b hpre.1, trivial⟩) (by first | trivial | (simp only [NamelessL, Nameless, and_self, and_true, true_and]; done) | (simp [NamelessL, Nameless, u32s_nameless, namelessL_ints]; done)) (by first | trivial | (simp only [NamelessL, Nameless, and_self, and_true, true_and]; done) | (simp [NamelessL, Nameless, u32s_nameless, namelessL_ints]; done)) ?_
  refine of_eq (B := letI z2 := List.length us; letI z6 := (u32s (cbT us vs a b z2)); letI z0 := (List.take (z2 * (1 : Nat)) (List.drop (0 : Nat) z6)); letI z1 := ((z2 : Nat) : Int); letI z3 := (dg (Int.toNat ((a * (((nv us) : Nat) : Int)) + (b * (((nv vs) : Nat) : Int))))); letI z4 := (D.v (Value.int IntKind.i64 (0 : Int))); letI z5 := (List.replicate (Int.toNat z1) (D.v (Value.int IntKind.u32 (0 : Int)))); letI z7 := (D.ro (List.length vs) (u32s vs)); letI z8 := (D.v (Value.int IntKind.i64 z1)); letI z9 := (D.v (Value.int IntKind.i64 a)); letI z10 := (D.v (Value.int IntKind.i64 b)); letI z11 := ([] : List (Option Blk)); letI z12 := (List.length (unu z0)); letI z13 := (Cap.toEnd (1 : Nat)); letI z14 := (D.ro z2 (u32s us)); (True ∧ (True ∧ (True ∧ ((((0 : Int) ≤ z1) ∧ ((z1 ≤ z1) ∧ ((((4 : Int) * z1) ≤ (281474976710656 : Int)) ∧ (z1 ≤ (9223372036854775807 : Int))))) ∧ (True ∧ (True ∧ (True ∧ (True ∧ (True ∧ (((0 : Nat) ≤ z2) ∧ (((Bool.true = Bool.true) ∧ (((((Option.some (Blk.mk (41 : Nat) (u32s (cbT us vs a b (0 : Nat))) Bool.true)) = (Option.some (Blk.mk (41 : Nat) z5 Bool.true))) ∧ (NamelessL z5)) ∧ (z11 = z11)) ∧ ((True ∧ (z14 = z14)) ∧ ((True ∧ (z7 = z7)) ∧ ((True ∧ (z9 = z9)) ∧ ((True ∧ (z10 = z10)) ∧ ((True ∧ ((D.sl (0 : Nat) (0 : Nat) (Int.toNat z1) z13) = (D.sl (0 : Nat) (0 : Nat) z2 z13))) ∧ ((True ∧ (z4 = (D.v (Value.int IntKind.i64 ((cbU us vs a b (0 : Nat)) / (1 : Int)))))) ∧ ((True ∧ (z8 = z8)) ∧ ((True ∧ (z4 = z4)) ∧ True)))))))))) ∧ (Unit → (True → (True ∧ (((((NamelessL z6) ∧ (((0 : Nat) < (1 : Nat)) ∧ (((0 : Nat) + (z2 * (1 : Nat))) ≤ (List.length z6)))) ∧ True) ∧ (((z0 = (u32s (unu z0))) ∧ (z2 = z12)) ∧ (z12 ≤ (1000000 : Nat)))) ∧ (True ∧ (True ∧ (True ∧ ((D.ro (List.length (trimL (unu z0))) (u32s (trimL (unu z0)))) = (D.ro (List.length z3) (u32s z3)))))))))))))))))))))) (by kernel_rfl) ?_
  obtain ⟨hc, h0, h1⟩ := hpre
  have hE := cb_end hc h0 h1
  obtain ⟨z1, z2⟩ := cb_zero us vs a b
  have hlen := cbT_length us vs a b (Nat.le_refl us.length)
  have hb := hc.1.1.1
  have hd : List.take us.length (u32s (cbT us vs a b us.length)) = u32s (cbT us vs a b us.length) := List.take_of_length_le (by simp [u32s_length, hlen])
  simp only [true_and, and_true, and_self, IsInt_lit, IsBool_lit, IsStr_lit, Bool.not_eq_true', Bool.not_eq_false', Bool.not_true, Bool.not_false, Int.reduceLE, Int.reduceLT, Int.reduceNeg, Nat.le_refl, Int.le_refl, Nat.reduceLT, Nat.reduceLeDiff, Nat.reduceEqDiff, D.v.injEq, D.tup.injEq, D.agg.injEq, D.ro.injEq, List.cons.injEq, Value.int.injEq, Value.bool.injEq, pcond_true, pcond_false, NamelessL, Nameless, Nat.reduceMul, Nat.reduceAdd, Nat.zero_add, Int.toNat_natCast, z1, z2, Nat.mul_one, List.drop_zero, hd, unu_u32s, hE, Int.toNat_natCast, u32s_length, hlen, u32s_nameless]
  have e0 : List.replicate us.length (D.v (Value.int IntKind.u32 0)) = u32s (List.replicate us.length 0) := u32s_replicate _ 0
  rw [e0]
  refine ⟨by omega, by omega, ?_⟩
  simp [u32s_nameless, hb]
def ent_icombine : Ent := fun ds => match ds with
  | [.ro n_us ys_us, .ro n_vs ys_vs, .v (.int .i64 a), .v (.int .i64 b)] => some (.ro (dg (a * (nv (unu ys_us) : Nat) + b * (nv (unu ys_vs) : Nat)).toNat).length (u32s (dg (a * (nv (unu ys_us) : Nat) + b * (nv (unu ys_vs) : Nat)).toNat)), (ys_vs = u32s (unu ys_vs) ∧ n_vs = (unu ys_vs).length) ∧ (ys_us = u32s (unu ys_us) ∧ n_us = (unu ys_us).length) ∧ cbHyp (unu ys_us) (unu ys_vs) a b ∧ 0 ≤ a * (nv (unu ys_us) : Nat) + b * (nv (unu ys_vs) : Nat) ∧ a * (nv (unu ys_us) : Nat) + b * (nv (unu ys_vs) : Nat) ≤ (nv (unu ys_us) : Nat))
  | _ => none
theorem ent_icombine_ok : EntOk Try.prog 104 ent_icombine := by
  intro ds d c h hc; unfold ent_icombine at h; split at h
  · rename_i n_us ys_us n_vs ys_vs a b; obtain ⟨rfl, rfl⟩ := pair_inj h
    obtain ⟨⟨h1, h2⟩, hc⟩ := hc; subst h2; generalize (unu ys_vs) = vs at *; subst h1
    obtain ⟨⟨h1, h2⟩, hc⟩ := hc; subst h2; generalize (unu ys_us) = us at *; subst h1
    exact icombine_pure us vs _ _ hc
  · cases h
end Go.Proofs.Ythnhfkpihbjddaa
end
section
namespace Go.Proofs.Ythnhfkpihbjddaa
open Go.VD
set_option linter.unusedVariables false
set_option linter.unusedSimpArgs false
set_option maxRecDepth 100000
def d_steps (a b c d : Int) : Option Blk := some ⟨112, [.v (.int .i64 a), .v (.int .i64 b), .v (.int .i64 c), .v (.int .i64 d)], true⟩
theorem tdiv_bd {n d M : Int} (hd : 0 < d) (h : -M ≤ n ∧ n ≤ M) : -M ≤ n.tdiv d ∧ n.tdiv d ≤ M := by
  rcases Int.le_total 0 n with h0 | h0
  · rw [Int.tdiv_eq_ediv_of_nonneg h0]
    have h1 := Int.ediv_nonneg h0 (Int.le_of_lt hd)
    have h2 := Int.ediv_le_self d h0
    omega
  · have h1 := Int.ediv_nonneg (show 0 ≤ -n by omega) (Int.le_of_lt hd)
    have h2 := Int.ediv_le_self d (show 0 ≤ -n by omega)
    have h3 : (-n).tdiv d = (-n) / d := Int.tdiv_eq_ediv_of_nonneg (by omega)
    rw [Int.neg_tdiv] at h3
    omega
def lsh (us : List Nat) : Nat := 32 * (us.length - 1) + bl (us.getD (us.length - 1) 0) - 62
def wX (us xs : List Nat) : Int := ((nv xs / 2 ^ lsh us : Nat) : Int)
def lsX (us vs : List Nat) : Int × Int × Int × Int := lsF (wX us us) (wX us vs) 1 0 0 1
def lHyp (us vs : List Nat) : Prop := ((us.length ≤ 1000000 ∧ vs.length ≤ 1000000) ∧ Dig us ∧ Dig vs) ∧ 2 < us.length ∧ nv vs ≤ nv us
theorem nv_lt_bl {us : List Nat} (hd : Dig us) (h0 : 0 < us.length) : nv us < 2 ^ (32 * (us.length - 1) + bl (us.getD (us.length - 1) 0)) := by
  have h1 := nv_take_succ us (us.length - 1) (by omega)
  rw [show us.length - 1 + 1 = us.length by omega, List.take_length] at h1
  have h2 := nv_lt (hd.take (us.length - 1))
  rw [show (us.take (us.length - 1)).length = us.length - 1 by simp] at h2
  have h3 := bl_lt (us.getD (us.length - 1) 0)
  have h4 : 2 ^ (32 * (us.length - 1)) = 4294967296 ^ (us.length - 1) := by rw [Nat.pow_mul]
  rw [Nat.pow_add, h4, h1]
  have h5 := Nat.mul_le_mul_left (4294967296 ^ (us.length - 1)) (show us.getD (us.length - 1) 0 + 1 ≤ 2 ^ bl (us.getD (us.length - 1) 0) from h3)
  rw [Nat.mul_add, Nat.mul_one, Nat.mul_comm _ (us.getD _ _)] at h5
  omega
theorem leh_base {us vs : List Nat} (h : lHyp us vs) : nv us < 4611686018427387904 * 2 ^ lsh us ∧ nv vs < 4611686018427387904 * 2 ^ lsh us ∧
    Base (nv us : Nat) (nv vs : Nat) ((2 ^ lsh us : Nat) : Int) (wX us us) (wX us vs) := by
  obtain ⟨⟨⟨lu, lv⟩, du, dv⟩, l3, hle⟩ := h
  have h1 := nv_lt_bl du (by omega)
  have e1 : 2 ^ (32 * (us.length - 1) + bl (us.getD (us.length - 1) 0)) = 4611686018427387904 * 2 ^ lsh us := by
    rw [show (4611686018427387904 : Nat) = 2 ^ 62 by rfl, ← Nat.pow_add]
    congr 1; unfold lsh; omega
  rw [e1] at h1
  have hP : 0 < 2 ^ lsh us := Nat.pow_pos (by decide)
  have hx : nv us / 2 ^ lsh us < 4611686018427387904 := by rw [Nat.div_lt_iff_lt_mul hP]; exact h1
  have bnd : ∀ n : Nat, ((n / 2 ^ lsh us : Nat) : Int) * ((2 ^ lsh us : Nat) : Int) ≤ n ∧ (n : Int) < ((n / 2 ^ lsh us : Nat) : Int) * ((2 ^ lsh us : Nat) : Int) + ((2 ^ lsh us : Nat) : Int) := fun n => by
    have h2 := Nat.div_add_mod n (2 ^ lsh us)
    have h3 := Nat.mod_lt n hP
    rw [← Int.natCast_mul, Nat.mul_comm]
    generalize 2 ^ lsh us * (n / 2 ^ lsh us) = W at *
    omega
  have hy : (0 : Int) ≤ wX us vs := Int.natCast_nonneg _
  have hx2 : wX us us < 4611686018427387904 := Int.ofNat_lt.2 hx
  refine ⟨h1, by omega, ⟨by omega, bnd _, bnd _, ⟨by omega, by omega⟩, hy, hx2⟩⟩
def lp_lsLoop (us vs : List Nat) : LoopO := loopRule (α := Int × Int × Int × Int × Int × Int) (β := Unit) [some 0, some 1] (fun s => Leh (nv us : Nat) (nv vs : Nat) ((2 ^ lsh us : Nat) : Int) (wX us us) (wX us vs) s.1 s.2.1 s.2.2.1 s.2.2.2.1 s.2.2.2.2.1 s.2.2.2.2.2 ∧ lsF s.1 s.2.1 s.2.2.1 s.2.2.2.1 s.2.2.2.2.1 s.2.2.2.2.2 = lsX us vs) (fun s => [(4, .ptr 0 0), (6, .v (.int .i64 s.1)), (7, .v (.int .i64 s.2.1)), (8, .ptr 1 0)]) (fun s => [d_steps 0 0 0 0, d_steps s.2.2.1 s.2.2.2.1 s.2.2.2.2.1 s.2.2.2.2.2]) ((wX us us, wX us vs, 1, 0, 0, 1)) (fun _ => True) (fun _ => (.exit 0, [(4, .ptr 0 0), (8, .ptr 1 0)], [d_steps 0 0 0 0, d_steps (lsX us vs).1 (lsX us vs).2.1 (lsX us vs).2.2.1 (lsX us vs).2.2.2]))
theorem lsLoop_rule (us vs : List Nat) (hpre : lHyp us vs) : LRuleP Try.prog Try.f103.ntmps (loopAt ((Try.f103.body).getD .skip) 4) (lp_lsLoop us vs) := by
  refine lrule_of (α := Int × Int × Int × Int × Int × Int) (β := Unit) (call := noCalls) (lp := fun _ => none) (N := 10) T_ok mixed noCalls_ok (fun s => s.2.1.toNat) (by kernel_rfl) (LpAllP.none _) ?_
  intro x hJ
  refine of_eq (B := letI z12 := (Prod.snd (Prod.snd x)); letI z34 := Prod.fst z12; letI z13 := (Prod.fst (Prod.snd x)); letI z2 := (Prod.snd (Prod.snd z12)); letI z18 := (IntKind.wrap IntKind.i64 (z13 + (Prod.fst z2))); letI z0 := (IntKind.wrap IntKind.i64 (Int.tdiv (IntKind.wrap IntKind.i64 ((Prod.fst x) + z34)) z18)); letI z14 := (Exit.exit (0 : Nat)); letI z10 := (Prod.mk (4 : Nat) (D.ptr (0 : Nat) (0 : Nat))); letI z11 := (Prod.mk (8 : Nat) (D.ptr (1 : Nat) (0 : Nat))); letI z27 := (d_steps (0 : Int) (0 : Int) (0 : Int) (0 : Int)); letI z30 := (Prod.snd (lsX us vs)); letI z1 := (Prod.mk z14 (Prod.mk [z10, z11] [z27, (d_steps (Prod.fst (lsX us vs)) (Prod.fst z30) (Prod.fst (Prod.snd z30)) (Prod.snd (Prod.snd z30)))])); letI z20 := (D.v (Value.int IntKind.i64 (Prod.fst z2))); letI z21 := (D.v (Value.int IntKind.i64 (Prod.snd z2))); letI z7 := (IntKind.wrap IntKind.i64 (z34 - (IntKind.wrap IntKind.i64 (z0 * (Prod.fst z2))))); letI z31 := (D.v (Value.int IntKind.i64 z7)); letI z28 := (Prod.fst (Prod.snd z12)); letI z6 := (IntKind.wrap IntKind.i64 (z28 - (IntKind.wrap IntKind.i64 (z0 * (Prod.snd z2))))); letI z32 := (D.v (Value.int IntKind.i64 z6)); letI z3 := (Option.some (Blk.mk (112 : Nat) [z20, z21, z31, z32] Bool.true)); letI z29 := (D.v (Value.int IntKind.i64 z34)); letI z16 := (D.v (Value.int IntKind.i64 z28)); letI z4 := (Option.some (Blk.mk (112 : Nat) [z29, z16, z20, z21] Bool.true)); letI z15 := (D.v (Value.int IntKind.i64 (0 : Int))); letI z5 := (Option.some (Blk.mk (112 : Nat) [z15, z15, z15, z15] Bool.true)); letI z35 := ((2 : Nat) < (4 : Nat)); letI z8 := (z35 ∧ (IsInt IntKind.i64 z20)); letI z36 := ((3 : Nat) < (4 : Nat)); letI z9 := (z36 ∧ (IsInt IntKind.i64 z21)); letI z17 := (((0 : Nat) < (4 : Nat)) ∧ (IsInt IntKind.i64 z29)); letI z19 := (IntKind.wrap IntKind.i64 (z13 + (Prod.snd z2))); letI z22 := (z35 ∧ (IsInt IntKind.i64 z31)); letI z23 := (z36 ∧ (IsInt IntKind.i64 z32)); letI z24 := (List (Option Nat)); letI z33 := ((4 : Nat) ≤ (4 : Nat)); letI z25 := (((4 : Nat) = (4 : Nat)) ∧ z33); letI z26 := (((1 : Nat) < (4 : Nat)) ∧ (IsInt IntKind.i64 z16)); (True ∧ (True ∧ (z8 ∧ (True ∧ (True ∧ (True ∧ (pcond (Decidable.decide ((0 : Int) < z18)) (True ∧ (True ∧ (z9 ∧ (True ∧ (True ∧ (True ∧ (pcond (Decidable.decide ((0 : Int) < z19)) (True ∧ (True ∧ (z17 ∧ (True ∧ (True ∧ (True ∧ (z8 ∧ (True ∧ ((z18 ≠ (0 : Int)) ∧ (True ∧ (True ∧ (True ∧ (True ∧ (z26 ∧ (True ∧ (True ∧ (True ∧ (z9 ∧ (True ∧ ((z19 ≠ (0 : Int)) ∧ (True ∧ (pcond (z0 != (IntKind.wrap IntKind.i64 (Int.tdiv (IntKind.wrap IntKind.i64 ((Prod.fst x) + z28)) z19))) (∃ (r : Unit), (∃ (kp : z24), (True ∧ ((z14 = z14) ∧ (viewAll kp [z10, z11] [z5, z4] (Prod.fst (Prod.snd ((fun (x_1 : Unit) => z1) r))) (Prod.snd (Prod.snd ((fun (x_1 : Unit) => z1) r)))))))) (True ∧ (z8 ∧ (True ∧ (z9 ∧ (True ∧ (z17 ∧ (True ∧ (True ∧ (z8 ∧ (True ∧ (True ∧ (True ∧ (z26 ∧ (True ∧ (True ∧ (z9 ∧ (True ∧ (True ∧ (True ∧ (True ∧ (z25 ∧ (True ∧ (z22 ∧ (True ∧ (z22 ∧ (True ∧ (True ∧ (z23 ∧ (True ∧ (z23 ∧ (True ∧ (True ∧ (True ∧ (pcond (Decidable.decide ((1073741824 : Int) ≤ (Max.max (Max.max (Max.max z7 (IntKind.wrap IntKind.i64 ((0 : Int) - z7))) z6) (IntKind.wrap IntKind.i64 ((0 : Int) - z6))))) (∃ (r : Unit), (∃ (kp : z24), (True ∧ ((z14 = z14) ∧ (viewAll kp [z10, z11] [z5, z4, z3] (Prod.fst (Prod.snd ((fun (x_1 : Unit) => z1) r))) (Prod.snd (Prod.snd ((fun (x_1 : Unit) => z1) r)))))))) (z33 ∧ (z25 ∧ (True ∧ (True ∧ (True ∧ (True ∧ (True ∧ (True ∧ (True ∧ (True ∧ (∃ (y : (Prod Int (Prod Int (Prod Int (Prod Int (Prod Int Int)))))), (∃ (kp : z24), (((Int.toNat (Prod.fst (Prod.snd y))) < (Int.toNat z13)) ∧ (((Leh (((nv us) : Nat) : Int) (((nv vs) : Nat) : Int) ((((2 : Nat) ^ (lsh us)) : Nat) : Int) (wX us us) (wX us vs) (Prod.fst y) (Prod.fst (Prod.snd y)) (Prod.fst (Prod.snd (Prod.snd y))) (Prod.fst (Prod.snd (Prod.snd (Prod.snd y)))) (Prod.fst (Prod.snd (Prod.snd (Prod.snd (Prod.snd y))))) (Prod.snd (Prod.snd (Prod.snd (Prod.snd (Prod.snd y)))))) ∧ ((lsF (Prod.fst y) (Prod.fst (Prod.snd y)) (Prod.fst (Prod.snd (Prod.snd y))) (Prod.fst (Prod.snd (Prod.snd (Prod.snd y)))) (Prod.fst (Prod.snd (Prod.snd (Prod.snd (Prod.snd y))))) (Prod.snd (Prod.snd (Prod.snd (Prod.snd (Prod.snd y)))))) = (lsX us vs))) ∧ (viewAll kp [z10, (Prod.mk (6 : Nat) (D.v (Value.int IntKind.i64 z13))), (Prod.mk (7 : Nat) (D.v (Value.int IntKind.i64 (IntKind.wrap IntKind.i64 ((Prod.fst x) - (IntKind.wrap IntKind.i64 (z0 * z13))))))), z11] [z5, z3, z3] [z10, (Prod.mk (6 : Nat) (D.v (Value.int IntKind.i64 (Prod.fst y)))), (Prod.mk (7 : Nat) (D.v (Value.int IntKind.i64 (Prod.fst (Prod.snd y))))), z11] [z27, (d_steps (Prod.fst (Prod.snd (Prod.snd y))) (Prod.fst (Prod.snd (Prod.snd (Prod.snd y)))) (Prod.fst (Prod.snd (Prod.snd (Prod.snd (Prod.snd y))))) (Prod.snd (Prod.snd (Prod.snd (Prod.snd (Prod.snd y))))))]))))))))))))))))))))))))))))))))))))))))))))))))))))))))))))))))))))))) (∃ (r : Unit), (∃ (kp : z24), (True ∧ ((z14 = z14) ∧ (viewAll kp [z10, z11] [z5, z4] (Prod.fst (Prod.snd ((fun (x_1 : Unit) => z1) r))) (Prod.snd (Prod.snd ((fun (x_1 : Unit) => z1) r))))))))))))))) (True ∧ (∃ (r : Unit), (∃ (kp : z24), (True ∧ ((z14 = z14) ∧ (viewAll kp [z10, z11] [z5, z4] (Prod.fst (Prod.snd ((fun (x_1 : Unit) => z1) r))) (Prod.snd (Prod.snd ((fun (x_1 : Unit) => z1) r))))))))))))))))) (by kernel_rfl) ?_
  obtain ⟨x, y, a, b, c, d⟩ := x
  obtain ⟨hL, hF⟩ := hJ
  simp only at hL hF
  have hpre := (leh_base hpre).2.2
  obtain ⟨⟨x1, x2⟩, y1, y2⟩ := leh_facts hpre hL
  obtain ⟨⟨a1, a2⟩, b1, b2⟩ := hL.ba
  obtain ⟨⟨c1, c2⟩, d1, d2⟩ := hL.bc
  have w1 : IntKind.i64.wrap (y + c) = y + c := wrap_i64_of (by omega) (by omega)
  have w2 : IntKind.i64.wrap (y + d) = y + d := wrap_i64_of (by omega) (by omega)
  have w3 : IntKind.i64.wrap (x + a) = x + a := wrap_i64_of (by omega) (by omega)
  have w4 : IntKind.i64.wrap (x + b) = x + b := wrap_i64_of (by omega) (by omega)
  simp only [true_and, and_true, and_self, IsInt_lit, IsBool_lit, IsStr_lit, Bool.not_eq_true', Bool.not_eq_false', Bool.not_true, Bool.not_false, Int.reduceLE, Int.reduceLT, Int.reduceNeg, Nat.le_refl, Int.le_refl, Nat.reduceLT, Nat.reduceLeDiff, Nat.reduceEqDiff, D.v.injEq, D.tup.injEq, D.agg.injEq, D.ro.injEq, List.cons.injEq, Value.int.injEq, Value.bool.injEq, pcond_true, pcond_false, NamelessL, Nameless, Nat.reduceMul, Nat.reduceAdd, Nat.zero_add, Int.toNat_natCast, w1, w2, w3, w4]
  rw [← hF]
  refine pcond_intro (fun h1 => ?_) (fun h1 => ⟨(), [some 0, some 1], ?_⟩)
  · simp only [decide_eq_true_eq] at h1
    refine pcond_intro (fun h2 => ?_) (fun h2 => ⟨(), [some 0, some 1], ?_⟩)
    · simp only [decide_eq_true_eq] at h2
      obtain ⟨q1, q2⟩ := tdiv_bd (n := x + a) (M := 4611686018427387904 + 1073741824 + 1073741824) h1 (by omega)
      obtain ⟨q3, q4⟩ := tdiv_bd (n := x + b) (M := 4611686018427387904 + 1073741824 + 1073741824) h2 (by omega)
      rw [wrap_i64_of (n := (x + a).tdiv (y + c)) (by omega) (by omega), wrap_i64_of (n := (x + b).tdiv (y + d)) (by omega) (by omega)]
      refine ⟨by omega, by omega, pcond_intro (fun h3 => ⟨(), [some 0, some 1], ?_⟩) (fun h3 => ?_)⟩
      · simp only [bne_iff_ne, ne_eq] at h3
        rw [show lsF x y a b c d = (a, b, c, d) by rw [lsF, if_pos ⟨h1, h2⟩, if_neg (show ¬ lsQ x y a c = lsQ x y b d from h3)]]
        refine of_eq (B := letI z0 := (D.v (Value.int IntKind.i64 (0 : Int))); letI z3 := (D.v (Value.int IntKind.i64 a)); letI z4 := (D.v (Value.int IntKind.i64 b)); letI z5 := (D.v (Value.int IntKind.i64 c)); letI z6 := (D.v (Value.int IntKind.i64 d)); letI z1 := (Option.some (Blk.mk (112 : Nat) [z3, z4, z5, z6] Bool.true)); letI z2 := (Option.some (Blk.mk (112 : Nat) [z0, z0, z0, z0] Bool.true)); letI z7 := (D.ptr (0 : Nat) (0 : Nat)); letI z8 := (D.ptr (1 : Nat) (0 : Nat)); letI z9 := ([] : List (Option Blk)); ((Bool.true = Bool.true) ∧ ((((z2 = z2) ∧ (NamelessL [z0, z0, z0, z0])) ∧ (((z1 = z1) ∧ (NamelessL [z3, z4, z5, z6])) ∧ (z9 = z9))) ∧ ((True ∧ (z7 = z7)) ∧ ((True ∧ (z8 = z8)) ∧ True))))) (by kernel_rfl) ?_
        simp [NamelessL, Nameless]
      · have h3 : (x + a).tdiv (y + c) = (x + b).tdiv (y + d) := by simpa using h3
        obtain ⟨⟨e1, e2, e3, e4⟩, ⟨e5, e6⟩, ⟨e7, e8⟩, ⟨e9, e10⟩, e11, e12⟩ := leh_ov hpre hL h1 h2 rfl h3
        have hq : lsQ x y a c = (x + a).tdiv (y + c) := rfl
        have hst := leh_step (q := (x + a).tdiv (y + c)) hpre hL h1 h2 rfl h3
        rw [lsF, if_pos ⟨h1, h2⟩, if_pos (show lsQ x y a c = lsQ x y b d from h3), hq]
        generalize (x + a).tdiv (y + c) = q at *
        rw [wrap_i64_of (n := q * c) (by omega) (by omega), wrap_i64_of (n := q * d) (by omega) (by omega), wrap_i64_of (n := q * y) (by omega) (by omega),
          wrap_i64_of (n := a - q * c) (by omega) (by omega), wrap_i64_of (n := b - q * d) (by omega) (by omega), wrap_i64_of (n := x - q * y) (by omega) (by omega),
          wrap_i64_of (n := 0 - (a - q * c)) (by omega) (by omega), wrap_i64_of (n := 0 - (b - q * d)) (by omega) (by omega)]
        have hm : max (max (max (a - q * c) (0 - (a - q * c))) (b - q * d)) (0 - (b - q * d)) = lsM (a - q * c) (b - q * d) := by unfold lsM; rw [Int.zero_sub, Int.zero_sub]
        rw [hm]
        refine pcond_intro (fun h4 => ⟨(), [some 0, some 1], ?_⟩) (fun h4 => ?_)
        · simp only [decide_eq_true_eq] at h4
          rw [if_pos h4]
          refine of_eq (B := letI z0 := (D.v (Value.int IntKind.i64 (0 : Int))); letI z3 := (D.v (Value.int IntKind.i64 a)); letI z4 := (D.v (Value.int IntKind.i64 b)); letI z5 := (D.v (Value.int IntKind.i64 c)); letI z6 := (D.v (Value.int IntKind.i64 d)); letI z1 := (Option.some (Blk.mk (112 : Nat) [z3, z4, z5, z6] Bool.true)); letI z2 := (Option.some (Blk.mk (112 : Nat) [z0, z0, z0, z0] Bool.true)); letI z7 := (D.ptr (0 : Nat) (0 : Nat)); letI z8 := (D.ptr (1 : Nat) (0 : Nat)); letI z9 := ([] : List (Option Blk)); ((Bool.true = Bool.true) ∧ ((((z2 = z2) ∧ (NamelessL [z0, z0, z0, z0])) ∧ (((z1 = z1) ∧ (NamelessL [z3, z4, z5, z6])) ∧ (z9 = z9))) ∧ ((True ∧ (z7 = z7)) ∧ ((True ∧ (z8 = z8)) ∧ True))))) (by kernel_rfl) ?_
          simp [NamelessL, Nameless]
        · simp only [decide_eq_false_iff_not] at h4
          obtain ⟨m1, m2⟩ := lsM_lt h4
          have ht : (x - q * y).toNat < y.toNat := by omega
          rw [if_neg h4, dif_pos ht]
          refine ⟨(y, x - q * y, c, d, a - q * c, b - q * d), [some 0, some 1], ht, ⟨hst m1 m2, rfl⟩, ?_⟩
          refine of_eq (B := letI z0 := (D.v (Value.int IntKind.i64 (0 : Int))); letI z6 := (D.v (Value.int IntKind.i64 c)); letI z7 := (D.v (Value.int IntKind.i64 d)); letI z3 := (D.v (Value.int IntKind.i64 (a - (q * c)))); letI z4 := (D.v (Value.int IntKind.i64 (b - (q * d)))); letI z1 := (Option.some (Blk.mk (112 : Nat) [z6, z7, z3, z4] Bool.true)); letI z2 := (Option.some (Blk.mk (112 : Nat) [z0, z0, z0, z0] Bool.true)); letI z5 := (D.v (Value.int IntKind.i64 (x - (q * y)))); letI z8 := (D.v (Value.int IntKind.i64 y)); letI z9 := (D.ptr (0 : Nat) (0 : Nat)); letI z10 := (D.ptr (1 : Nat) (0 : Nat)); letI z11 := ([] : List (Option Blk)); ((Bool.true = Bool.true) ∧ ((((z2 = z2) ∧ (NamelessL [z0, z0, z0, z0])) ∧ (((z1 = z1) ∧ (NamelessL [z6, z7, z3, z4])) ∧ (z11 = z11))) ∧ ((True ∧ (z9 = z9)) ∧ ((True ∧ (z8 = z8)) ∧ ((True ∧ (z5 = z5)) ∧ ((True ∧ (z10 = z10)) ∧ True))))))) (by kernel_rfl) ?_
          simp [NamelessL, Nameless]
    · simp only [decide_eq_false_iff_not] at h2
      rw [show lsF x y a b c d = (a, b, c, d) by rw [lsF, if_neg (fun h => h2 h.2)]]
      refine of_eq (B := letI z0 := (D.v (Value.int IntKind.i64 (0 : Int))); letI z3 := (D.v (Value.int IntKind.i64 a)); letI z4 := (D.v (Value.int IntKind.i64 b)); letI z5 := (D.v (Value.int IntKind.i64 c)); letI z6 := (D.v (Value.int IntKind.i64 d)); letI z1 := (Option.some (Blk.mk (112 : Nat) [z3, z4, z5, z6] Bool.true)); letI z2 := (Option.some (Blk.mk (112 : Nat) [z0, z0, z0, z0] Bool.true)); letI z7 := (D.ptr (0 : Nat) (0 : Nat)); letI z8 := (D.ptr (1 : Nat) (0 : Nat)); letI z9 := ([] : List (Option Blk)); ((Bool.true = Bool.true) ∧ ((((z2 = z2) ∧ (NamelessL [z0, z0, z0, z0])) ∧ (((z1 = z1) ∧ (NamelessL [z3, z4, z5, z6])) ∧ (z9 = z9))) ∧ ((True ∧ (z7 = z7)) ∧ ((True ∧ (z8 = z8)) ∧ True))))) (by kernel_rfl) ?_
      simp [NamelessL, Nameless]
  · simp only [decide_eq_false_iff_not] at h1
    rw [show lsF x y a b c d = (a, b, c, d) by rw [lsF, if_neg (fun h => h1 h.1)]]
    refine of_eq (B := letI z0 := (D.v (Value.int IntKind.i64 (0 : Int))); letI z3 := (D.v (Value.int IntKind.i64 a)); letI z4 := (D.v (Value.int IntKind.i64 b)); letI z5 := (D.v (Value.int IntKind.i64 c)); letI z6 := (D.v (Value.int IntKind.i64 d)); letI z1 := (Option.some (Blk.mk (112 : Nat) [z3, z4, z5, z6] Bool.true)); letI z2 := (Option.some (Blk.mk (112 : Nat) [z0, z0, z0, z0] Bool.true)); letI z7 := (D.ptr (0 : Nat) (0 : Nat)); letI z8 := (D.ptr (1 : Nat) (0 : Nat)); letI z9 := ([] : List (Option Blk)); ((Bool.true = Bool.true) ∧ ((((z2 = z2) ∧ (NamelessL [z0, z0, z0, z0])) ∧ (((z1 = z1) ∧ (NamelessL [z3, z4, z5, z6])) ∧ (z9 = z9))) ∧ ((True ∧ (z7 = z7)) ∧ ((True ∧ (z8 = z8)) ∧ True))))) (by kernel_rfl) ?_
    simp [NamelessL, Nameless]
theorem ileadingSteps_pure (us vs : List Nat) (hpre : lHyp us vs) : PureJ Try.prog 103 [.ro us.length (u32s us), .ro vs.length (u32s vs)] (.agg [.v (.int .i64 (lsX us vs).1), .v (.int .i64 (lsX us vs).2.1), .v (.int .i64 (lsX us vs).2.2.1), .v (.int .i64 (lsX us vs).2.2.2)]) := by
  refine pureJ_of_vcp (call := (addPure 107 ent_ilength (addPure 125 ent_iwindow noCalls))) (lp := fun k => bif Nat.beq k 4 then some (lp_lsLoop us vs) else none) (N := 10) T_ok mixed (addPure_ok ent_ilength_ok (addPure_ok ent_iwindow_ok noCalls_ok)) Try.func103 rfl (by decide) (by kernel_rfl) (by kernel_rfl) (of_eq (B := LRuleP Try.prog Try.f103.ntmps (loopAt ((Try.f103.body).getD .skip) 4) (lp_lsLoop us vs) ∧ True) (by kernel_rfl) ⟨lsLoop_rule us vs hpre, trivial⟩) (by first | trivial | (simp only [NamelessL, Nameless, and_self, and_true, true_and]; done) | (simp [NamelessL, Nameless, u32s_nameless, namelessL_ints]; done)) (by first | trivial | (simp only [NamelessL, Nameless, and_self, and_true, true_and]; done) | (simp [NamelessL, Nameless, u32s_nameless, namelessL_ints]; done)) ?_
  refine of_eq (B := letI z4 := (unu (u32s us)); letI z5 := List.length z4; letI z0 := (IntKind.wrap IntKind.i64 ((((((32 : Nat) * (z5 - (1 : Nat))) + (bl (List.getD z4 (z5 - (1 : Nat)) (0 : Nat)))) : Nat) : Int) - (62 : Int))); letI z1 := (D.v (Value.int IntKind.i64 (0 : Int))); letI z13 := (Prod.snd (lsX us vs)); letI z2 := (D.agg [(D.v (Value.int IntKind.i64 (Prod.fst (lsX us vs)))), (D.v (Value.int IntKind.i64 (Prod.fst z13))), (D.v (Value.int IntKind.i64 (Prod.fst (Prod.snd z13)))), (D.v (Value.int IntKind.i64 (Prod.snd (Prod.snd z13))))]); letI z3 := (D.v (Value.int IntKind.i64 (1 : Int))); letI z6 := ((2 : Nat) ^ (Int.toNat z0)); letI z7 := ((4 : Nat) ≤ (4 : Nat)); letI z8 := (unu (u32s vs)); letI z9 := (Option.some (Blk.mk (112 : Nat) [z1, z1, z1, z1] Bool.true)); letI z10 := (Option.some (Blk.mk (112 : Nat) [z3, z1, z1, z3] Bool.true)); letI z11 := (((u32s us) = (u32s z4)) ∧ ((List.length us) = z5)); letI z12 := (((0 : Int) ≤ z0) ∧ (z0 < (64000000 : Int))); letI z14 := ((z5 ≤ (1000000 : Nat)) ∧ (Dig z4)); letI z15 := ((4611686018427387904 : Nat) * z6); letI z16 := (((4 : Nat) = (4 : Nat)) ∧ z7); letI z17 := (D.ptr (0 : Nat) (0 : Nat)); letI z18 := (D.ptr (1 : Nat) (0 : Nat)); letI z19 := ([] : List (Option Blk)); (True ∧ (True ∧ ((z11 ∧ (((0 : Nat) < z5) ∧ z14)) ∧ (True ∧ (True ∧ (True ∧ (True ∧ ((z11 ∧ (z14 ∧ (z12 ∧ ((nv z4) < z15)))) ∧ (True ∧ (True ∧ (((((u32s vs) = (u32s z8)) ∧ ((List.length vs) = (List.length z8))) ∧ ((((List.length z8) ≤ (1000000 : Nat)) ∧ (Dig z8)) ∧ (z12 ∧ ((nv z8) < z15)))) ∧ (True ∧ (True ∧ (True ∧ (True ∧ (z16 ∧ (((Leh (((nv us) : Nat) : Int) (((nv vs) : Nat) : Int) ((((2 : Nat) ^ (lsh us)) : Nat) : Int) (wX us us) (wX us vs) (wX us us) (wX us vs) (1 : Int) (0 : Int) (0 : Int) (1 : Int)) ∧ ((lsF (wX us us) (wX us vs) (1 : Int) (0 : Int) (0 : Int) (1 : Int)) = (lsX us vs))) ∧ (((Bool.true = Bool.true) ∧ ((((z9 = z9) ∧ (NamelessL [z1, z1, z1, z1])) ∧ (((z10 = z10) ∧ (NamelessL [z3, z1, z1, z3])) ∧ (z19 = z19))) ∧ ((True ∧ (z17 = z17)) ∧ ((True ∧ ((D.v (Value.int IntKind.i64 ((((nv z4) / z6) : Nat) : Int))) = (D.v (Value.int IntKind.i64 (wX us us))))) ∧ ((True ∧ ((D.v (Value.int IntKind.i64 ((((nv z8) / z6) : Nat) : Int))) = (D.v (Value.int IntKind.i64 (wX us vs))))) ∧ ((True ∧ (z18 = z18)) ∧ True)))))) ∧ (Unit → (True → (z7 ∧ (z16 ∧ ((z7 ∧ True) ∧ ((True ∧ (True ∧ (True ∧ (True ∧ True)))) ∧ (z2 = z2)))))))))))))))))))))))))) (by kernel_rfl) ?_
  obtain ⟨g1, g2, g3⟩ := leh_base hpre
  obtain ⟨⟨⟨lu, lv⟩, du, dv⟩, l3, hle⟩ := hpre
  have b32 := bl32 (du.get (us.length - 1))
  have w1 : IntKind.i64.wrap (((32 * (us.length - 1) + bl (us.getD (us.length - 1) 0) : Nat) : Int) - 62) = ((lsh us : Nat) : Int) := by
    rw [wrap_i64_of (by omega) (by omega)]; unfold lsh; omega
  simp only [true_and, and_true, and_self, IsInt_lit, IsBool_lit, IsStr_lit, Bool.not_eq_true', Bool.not_eq_false', Bool.not_true, Bool.not_false, Int.reduceLE, Int.reduceLT, Int.reduceNeg, Nat.le_refl, Int.le_refl, Nat.reduceLT, Nat.reduceLeDiff, Nat.reduceEqDiff, D.v.injEq, D.tup.injEq, D.agg.injEq, D.ro.injEq, List.cons.injEq, Value.int.injEq, Value.bool.injEq, pcond_true, pcond_false, NamelessL, Nameless, Nat.reduceMul, Nat.reduceAdd, Nat.zero_add, Int.toNat_natCast, unu_u32s, w1]
  have hs : lsh us < 64000000 := by unfold lsh; omega
  exact ⟨⟨by omega, by omega, du⟩, ⟨⟨by omega, du⟩, ⟨by omega, by omega⟩, g1⟩, ⟨⟨by omega, dv⟩, ⟨by omega, by omega⟩, g2⟩, ⟨leh_start g3, rfl⟩, ⟨rfl, rfl⟩, fun _ _ => trivial⟩
def ent_ileadingSteps : Ent := fun ds => match ds with
  | [.ro n_us ys_us, .ro n_vs ys_vs] => some (.agg [.v (.int .i64 (lsX (unu ys_us) (unu ys_vs)).1), .v (.int .i64 (lsX (unu ys_us) (unu ys_vs)).2.1), .v (.int .i64 (lsX (unu ys_us) (unu ys_vs)).2.2.1), .v (.int .i64 (lsX (unu ys_us) (unu ys_vs)).2.2.2)], (ys_vs = u32s (unu ys_vs) ∧ n_vs = (unu ys_vs).length) ∧ (ys_us = u32s (unu ys_us) ∧ n_us = (unu ys_us).length) ∧ lHyp (unu ys_us) (unu ys_vs))
  | _ => none
theorem ent_ileadingSteps_ok : EntOk Try.prog 103 ent_ileadingSteps := by
  intro ds d c h hc; unfold ent_ileadingSteps at h; split at h
  · rename_i n_us ys_us n_vs ys_vs; obtain ⟨rfl, rfl⟩ := pair_inj h
    obtain ⟨⟨h1, h2⟩, hc⟩ := hc; subst h2; generalize (unu ys_vs) = vs at *; subst h1
    obtain ⟨⟨h1, h2⟩, hc⟩ := hc; subst h2; generalize (unu ys_us) = us at *; subst h1
    exact ileadingSteps_pure us vs hc
  · cases h
def entq_ileadingSteps : EntQ := fun ds K => match ds with
  | [.ro n_us ys_us, .ro n_vs ys_vs] => some (((ys_vs = u32s (unu ys_vs) ∧ n_vs = (unu ys_vs).length) ∧ (ys_us = u32s (unu ys_us) ∧ n_us = (unu ys_us).length) ∧ lHyp (unu ys_us) (unu ys_vs)) ∧ (∀ a : Int, a = (lsX (unu ys_us) (unu ys_vs)).1 → (∀ b : Int, b = (lsX (unu ys_us) (unu ys_vs)).2.1 → (∀ c : Int, c = (lsX (unu ys_us) (unu ys_vs)).2.2.1 → (∀ d : Int, d = (lsX (unu ys_us) (unu ys_vs)).2.2.2 → K (.agg [.v (.int .i64 a), .v (.int .i64 b), .v (.int .i64 c), .v (.int .i64 d)]))))))
  | _ => none
theorem entq_ileadingSteps_ok : EntQOk Try.prog 103 entq_ileadingSteps := by
  intro ds K p h hp; unfold entq_ileadingSteps at h; split at h
  · rename_i n_us ys_us n_vs ys_vs; injection h with h; subst h; obtain ⟨hc, hk⟩ := hp
    obtain ⟨⟨h1, h2⟩, hc⟩ := hc; subst h2; generalize (unu ys_vs) = vs at *; subst h1
    obtain ⟨⟨h1, h2⟩, hc⟩ := hc; subst h2; generalize (unu ys_us) = us at *; subst h1
    exact ⟨_, ileadingSteps_pure us vs hc, hk _ rfl _ rfl _ rfl _ rfl⟩
  · cases h
end Go.Proofs.Ythnhfkpihbjddaa
end
