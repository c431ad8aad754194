import Derived.Test.YthnhfkpihbjddaaZKv12
import Derived.Test.YthnhfkpihbjddaaZKv11
import Derived.Test.YthnhfkpihbjddaaZKv13
section
namespace Go.Proofs.Ythnhfkpihbjddaa
open Go.VD
set_option linter.unusedVariables false
set_option linter.unusedSimpArgs false
set_option maxRecDepth 100000
def bl (x : Nat) : Nat := if x = 0 then 0 else Nat.log2 x + 1
theorem bl_lt (x : Nat) : x < 2 ^ bl x := by
  unfold bl
  by_cases h : x = 0
  · subst h; simp
  · rw [if_neg h]; exact Nat.lt_log2_self
theorem bl_le {x : Nat} (h : x ≠ 0) : 0 < bl x ∧ 2 ^ (bl x - 1) ≤ x := by
  unfold bl
  rw [if_neg h]
  exact ⟨by omega, Nat.log2_self_le h⟩
theorem bl_uniq {x n : Nat} (h1 : x < 2 ^ n) (h2 : 0 < n → 2 ^ (n - 1) ≤ x) : bl x = n := by
  rcases Nat.eq_zero_or_pos n with h0 | h0
  · subst h0
    have : x = 0 := by simpa using h1
    subst this; rfl
  · have h2 := h2 h0
    have hx : x ≠ 0 := by have : 0 < 2 ^ (n - 1) := Nat.pow_pos (by decide); omega
    obtain ⟨a, b⟩ := bl_le hx
    have c := bl_lt x
    have d1 : bl x - 1 < n := (Nat.pow_lt_pow_iff_right (show 1 < 2 by decide)).1 (Nat.lt_of_le_of_lt b h1)
    have d2 : n - 1 < bl x := (Nat.pow_lt_pow_iff_right (show 1 < 2 by decide)).1 (Nat.lt_of_le_of_lt h2 c)
    omega
theorem bl_shift {x k : Nat} (h : 2 ^ k ≤ x) : bl x = k + bl (x / 2 ^ k) := by
  have hk : 0 < 2 ^ k := Nat.pow_pos (by decide)
  have h0 : x / 2 ^ k ≠ 0 := by have := Nat.div_pos h hk; omega
  obtain ⟨a, b⟩ := bl_le h0
  have c := bl_lt (x / 2 ^ k)
  apply bl_uniq
  · rw [Nat.div_lt_iff_lt_mul hk] at c
    rwa [Nat.pow_add, Nat.mul_comm]
  · intro _
    rw [Nat.le_div_iff_mul_le hk] at b
    rw [show k + bl (x / 2 ^ k) - 1 = bl (x / 2 ^ k) - 1 + k by omega, Nat.pow_add]
    exact b
def tab8 : List UInt8 := (List.range 256).map fun i => UInt8.ofNat (bl i)
theorem tab8_get {i : Nat} (h : i < 256) : (tab8.getD i 0).toNat = bl i := by
  have hb : ∀ i, i < 256 → bl i < 256 := by
    intro i hi
    have := bl_uniq (x := i) (n := bl i) (bl_lt i) (fun h => (bl_le (fun e => by subst e; simp [bl] at h)).2)
    refine Nat.lt_of_le_of_lt (m := 8) ?_ (by decide)
    refine Nat.le_of_not_lt fun h9 => ?_
    have h0 : i ≠ 0 := fun e => by subst e; simp [bl] at h9
    have := (bl_le h0).2
    have := Nat.pow_le_pow_right (show 0 < 2 by decide) (show 8 ≤ bl i - 1 by omega)
    omega
  unfold tab8
  rw [List.getD_eq_getElem?_getD, List.getElem?_map, List.getElem?_range h]
  simp only [Option.map_some, Option.getD_some]
  rw [UInt8.toNat_ofNat_of_lt' (hb i h)]
theorem ilen32_pure (x : Int) (hpre : 0 ≤ x ∧ x < 4294967296) : PureJ Try.prog 123 [.v (.int .u32 x)] (.v (.int .i64 (bl x.toNat : Nat))) := by
  refine pureJ_of_vcx (call := noCalls) (lp := fun _ => none) (N := 10) T_ok mixed noCalls_ok Try.func123 rfl (by decide) (by kernel_rfl) (by kernel_rfl) (LpAll.none _) (by first | trivial | (simp only [NamelessL, Nameless, and_self, and_true, true_and]; done) | (simp [NamelessL, Nameless, u32s_nameless, namelessL_ints]; done)) (by first | trivial | (simp only [NamelessL, Nameless, and_self, and_true, true_and]; done) | (simp [NamelessL, Nameless, u32s_nameless, namelessL_ints]; done)) ?_
  refine of_eq (B := letI z0 := (D.v (Value.int IntKind.i64 (((bl (Int.toNat x)) : Nat) : Int))); letI z5 := (Int.fdiv x (65536 : Int)); letI z1 := (IntKind.wrap IntKind.u8 (Int.fdiv z5 (256 : Int))); letI z2 := (IntKind.wrap IntKind.u8 z5); letI z3 := (IntKind.wrap IntKind.u8 (Int.fdiv x (256 : Int))); letI z4 := IntKind.wrap IntKind.u8 x; letI z6 := ((0 : Int) ≤ (8 : Int)); (True ∧ (True ∧ (True ∧ (pcond (Decidable.decide ((65536 : Int) ≤ x)) (True ∧ (((0 : Int) ≤ (16 : Int)) ∧ (True ∧ (True ∧ (True ∧ (True ∧ (pcond (Decidable.decide ((256 : Int) ≤ z5)) (True ∧ (z6 ∧ (True ∧ (True ∧ (True ∧ (True ∧ (True ∧ (True ∧ (True ∧ ((((0 : Int) ≤ z1) ∧ (z1 < (256 : Int))) ∧ (True ∧ (True ∧ (True ∧ (True ∧ (True ∧ ((D.v (Value.int IntKind.i64 (IntKind.wrap IntKind.i64 ((24 : Int) + (IntKind.wrap IntKind.i64 (((UInt8.toNat (List.getD tab8 (Int.toNat z1) (0 : UInt8))) : Nat) : Int)))))) = z0)))))))))))))))) (True ∧ (True ∧ (True ∧ ((((0 : Int) ≤ z2) ∧ (z2 < (256 : Int))) ∧ (True ∧ (True ∧ (True ∧ (True ∧ (True ∧ ((D.v (Value.int IntKind.i64 (IntKind.wrap IntKind.i64 ((16 : Int) + (IntKind.wrap IntKind.i64 (((UInt8.toNat (List.getD tab8 (Int.toNat z2) (0 : UInt8))) : Nat) : Int)))))) = z0))))))))))))))))) (True ∧ (True ∧ (pcond (Decidable.decide ((256 : Int) ≤ x)) (True ∧ (z6 ∧ (True ∧ (True ∧ (True ∧ (True ∧ (True ∧ (True ∧ (True ∧ ((((0 : Int) ≤ z3) ∧ (z3 < (256 : Int))) ∧ (True ∧ (True ∧ (True ∧ (True ∧ (True ∧ ((D.v (Value.int IntKind.i64 (IntKind.wrap IntKind.i64 ((8 : Int) + (IntKind.wrap IntKind.i64 (((UInt8.toNat (List.getD tab8 (Int.toNat z3) (0 : UInt8))) : Nat) : Int)))))) = z0)))))))))))))))) (True ∧ (True ∧ (True ∧ ((((0 : Int) ≤ z4) ∧ (z4 < (256 : Int))) ∧ (True ∧ (True ∧ (True ∧ (True ∧ (True ∧ ((D.v (Value.int IntKind.i64 (IntKind.wrap IntKind.i64 ((0 : Int) + (IntKind.wrap IntKind.i64 (((UInt8.toNat (List.getD tab8 (Int.toNat z4) (0 : UInt8))) : Nat) : Int)))))) = z0)))))))))))))))))) (by kernel_rfl) ?_
  obtain ⟨hx0, hpre⟩ := hpre
  obtain ⟨x, rfl⟩ := Int.eq_ofNat_of_zero_le hx0
  simp only [Int.toNat_natCast, Int.ofNat_eq_natCast] at *
  simp only [true_and, and_true, and_self, IsInt_lit, IsBool_lit, IsStr_lit, Bool.not_eq_true', Bool.not_eq_false', Bool.not_true, Bool.not_false, Int.reduceLE, Int.reduceLT, Int.reduceNeg, Nat.le_refl, Int.le_refl, Nat.reduceLT, Nat.reduceLeDiff, Nat.reduceEqDiff, D.v.injEq, D.tup.injEq, D.agg.injEq, D.ro.injEq, List.cons.injEq, Value.int.injEq, Value.bool.injEq, pcond_true, pcond_false, NamelessL, Nameless, Nat.reduceMul, Nat.reduceAdd, Nat.zero_add, Int.toNat_natCast]
  have e0 : (x : Int).fdiv 65536 = ((x / 65536 : Nat) : Int) := by rw [Int.fdiv_eq_ediv_of_nonneg _ (by omega)]; omega
  have e1 : ((x / 65536 : Nat) : Int).fdiv 256 = ((x / 65536 / 256 : Nat) : Int) := by rw [Int.fdiv_eq_ediv_of_nonneg _ (by omega)]; omega
  have e2 : (x : Int).fdiv 256 = ((x / 256 : Nat) : Int) := by rw [Int.fdiv_eq_ediv_of_nonneg _ (by omega)]; omega
  have w8 : ∀ n : Nat, n < 256 → IntKind.u8.wrap (n : Int) = (n : Int) := fun n h => by rw [wrap_u8]; omega
  have hb : ∀ n : Nat, n < 256 → bl n ≤ 8 := fun n h => by
    refine Nat.le_of_not_lt fun h9 => ?_
    have h0 : n ≠ 0 := fun e => by subst e; simp [bl] at h9
    have := (bl_le h0).2
    have := Nat.pow_le_pow_right (show 0 < 2 by decide) (show 8 ≤ bl n - 1 by omega)
    omega
  have fin : ∀ (c n : Nat), n < 256 → c ≤ 24 → IntKind.i64.wrap ((c : Int) + IntKind.i64.wrap ((tab8.getD (IntKind.u8.wrap (n : Int)).toNat 0).toNat : Int)) = ((c + bl n : Nat) : Int) := fun c n h hc => by
    have := hb n h
    rw [w8 n h, Int.toNat_natCast, tab8_get h, wrap_i64_of (n := (bl n : Int)) (by omega) (by omega), wrap_i64_of (by omega) (by omega)]; omega
  have p1 : 65536 ≤ x → bl x = 16 + bl (x / 65536) := fun h => bl_shift (k := 16) h
  have p2 : ∀ y, 256 ≤ y → bl y = 8 + bl (y / 256) := fun y h => bl_shift (k := 8) h
  simp only [e0, e1, e2]
  refine pcond_intro (fun h => pcond_intro (fun h2 => ⟨?_, ?_⟩) (fun h2 => ⟨?_, ?_⟩)) (fun h => pcond_intro (fun h2 => ⟨?_, ?_⟩) (fun h2 => ⟨?_, ?_⟩))
  all_goals simp only [decide_eq_true_eq, decide_eq_false_iff_not] at h h2
  · rw [w8 _ (by omega)]; omega
  · have := fin 24 (x / 65536 / 256) (by omega) (by decide)
    rw [p1 (by omega), p2 _ (by omega)]
    exact this.trans (by omega)
  · rw [w8 _ (by omega)]; omega
  · have := fin 16 (x / 65536) (by omega) (by decide)
    rw [p1 (by omega)]
    exact this
  · rw [w8 _ (by omega)]; omega
  · have := fin 8 (x / 256) (by omega) (by decide)
    rw [p2 _ (by omega)]
    exact this
  · rw [w8 _ (by omega)]; omega
  · have := fin 0 x (by omega) (by decide)
    rw [Nat.zero_add] at this
    exact this
def ent_ilen32 : Ent := fun ds => match ds with
  | [.v (.int .u32 x)] => some (.v (.int .i64 (bl x.toNat : Nat)), 0 ≤ x ∧ x < 4294967296)
  | _ => none
theorem ent_ilen32_ok : EntOk Try.prog 123 ent_ilen32 := by
  intro ds d c h hc; unfold ent_ilen32 at h; split at h
  · obtain ⟨rfl, rfl⟩ := pair_inj h; exact ilen32_pure _ hc
  · cases h
theorem bl32 {x : Nat} (h : x < 4294967296) : bl x ≤ 32 := by
  refine Nat.le_of_not_lt fun h9 => ?_
  have h0 : x ≠ 0 := fun e => by subst e; simp [bl] at h9
  have := (bl_le h0).2
  have := Nat.pow_le_pow_right (show 0 < 2 by decide) (show 32 ≤ bl x - 1 by omega)
  omega
theorem ilead32_pure (x : Int) (hpre : 0 ≤ x ∧ x < 4294967296) : PureJ Try.prog 91 [.v (.int .u32 x)] (.v (.int .i64 (32 - bl x.toNat : Nat))) := by
  refine pureJ_of_vcx (call := (addPure 123 ent_ilen32 noCalls)) (lp := fun _ => none) (N := 10) T_ok mixed (addPure_ok ent_ilen32_ok noCalls_ok) Try.func91 rfl (by decide) (by kernel_rfl) (by kernel_rfl) (LpAll.none _) (by first | trivial | (simp only [NamelessL, Nameless, and_self, and_true, true_and]; done) | (simp [NamelessL, Nameless, u32s_nameless, namelessL_ints]; done)) (by first | trivial | (simp only [NamelessL, Nameless, and_self, and_true, true_and]; done) | (simp [NamelessL, Nameless, u32s_nameless, namelessL_ints]; done)) ?_
  refine of_eq (B := (True ∧ (True ∧ ((((0 : Int) ≤ x) ∧ (x < (4294967296 : Int))) ∧ (True ∧ (True ∧ (True ∧ (True ∧ ((D.v (Value.int IntKind.i64 (IntKind.wrap IntKind.i64 ((32 : Int) - (((bl (Int.toNat x)) : Nat) : Int))))) = (D.v (Value.int IntKind.i64 ((((32 : Nat) - (bl (Int.toNat x))) : Nat) : Int)))))))))))) (by kernel_rfl) ?_
  simp only [true_and, and_true, and_self, IsInt_lit, IsBool_lit, IsStr_lit, Bool.not_eq_true', Bool.not_eq_false', Bool.not_true, Bool.not_false, Int.reduceLE, Int.reduceLT, Int.reduceNeg, Nat.le_refl, Int.le_refl, Nat.reduceLT, Nat.reduceLeDiff, Nat.reduceEqDiff, D.v.injEq, D.tup.injEq, D.agg.injEq, D.ro.injEq, List.cons.injEq, Value.int.injEq, Value.bool.injEq, pcond_true, pcond_false, NamelessL, Nameless, Nat.reduceMul, Nat.reduceAdd, Nat.zero_add, Int.toNat_natCast]
  have := bl32 (x := x.toNat) (by omega)
  refine ⟨hpre, ?_⟩
  rw [wrap_i64_of (by omega) (by omega)]; omega
def ent_ilead32 : Ent := fun ds => match ds with
  | [.v (.int .u32 x)] => some (.v (.int .i64 (32 - bl x.toNat : Nat)), 0 ≤ x ∧ x < 4294967296)
  | _ => none
theorem ent_ilead32_ok : EntOk Try.prog 91 ent_ilead32 := by
  intro ds d c h hc; unfold ent_ilead32 at h; split at h
  · obtain ⟨rfl, rfl⟩ := pair_inj h; exact ilead32_pure _ hc
  · cases h
theorem ilength_pure (xs : List Nat) (hpre : 0 < xs.length ∧ xs.length ≤ 1000000 ∧ Dig xs) : PureJ Try.prog 107 [.ro xs.length (u32s xs)] (.v (.int .i64 (32 * (xs.length - 1) + bl (xs.getD (xs.length - 1) 0) : Nat))) := by
  refine pureJ_of_vcx (call := (addPure 123 ent_ilen32 noCalls)) (lp := fun _ => none) (N := 10) T_ok mixed (addPure_ok ent_ilen32_ok noCalls_ok) Try.func107 rfl (by decide) (by kernel_rfl) (by kernel_rfl) (LpAll.none _) (by first | trivial | (simp only [NamelessL, Nameless, and_self, and_true, true_and]; done) | (simp [NamelessL, Nameless, u32s_nameless, namelessL_ints]; done)) (by first | trivial | (simp only [NamelessL, Nameless, and_self, and_true, true_and]; done) | (simp [NamelessL, Nameless, u32s_nameless, namelessL_ints]; done)) ?_
  refine of_eq (B := letI z2 := List.length xs; letI z0 := (IntKind.wrap IntKind.i64 (((z2 : Nat) : Int) - (1 : Int))); letI z3 := ((Int.toNat z0) * (1 : Nat)); letI z1 := (List.getD (u32s xs) z3 (Inhabited.default)); (True ∧ (True ∧ (True ∧ (True ∧ (True ∧ (True ∧ (True ∧ (True ∧ (True ∧ ((((0 : Int) ≤ z0) ∧ (z0 < ((z2 : Nat) : Int))) ∧ (((z3 < (List.length (u32s xs))) ∧ (IsInt IntKind.u32 z1)) ∧ ((((0 : Int) ≤ (cellInt z1)) ∧ ((cellInt z1) < (4294967296 : Int))) ∧ (True ∧ (True ∧ (True ∧ (True ∧ ((D.v (Value.int IntKind.i64 (IntKind.wrap IntKind.i64 ((IntKind.wrap IntKind.i64 ((32 : Int) * z0)) + (((bl (Int.toNat (cellInt z1))) : Nat) : Int))))) = (D.v (Value.int IntKind.i64 (((((32 : Nat) * (z2 - (1 : Nat))) + (bl (List.getD xs (z2 - (1 : Nat)) (0 : Nat)))) : Nat) : Int))))))))))))))))))))) (by kernel_rfl) ?_
  obtain ⟨h0, h1, hd⟩ := hpre
  have e : IntKind.i64.wrap ((xs.length : Int) - 1) = ((xs.length - 1 : Nat) : Int) := by rw [wrap_i64_of (by omega) (by omega)]; omega
  have hx := hd.get (xs.length - 1)
  have := bl32 hx
  have e2 : IntKind.i64.wrap (32 * ((xs.length - 1 : Nat) : Int)) = ((32 * (xs.length - 1) : Nat) : Int) := by rw [wrap_i64_of (by omega) (by omega)]; omega
  simp only [true_and, and_true, and_self, IsInt_lit, IsBool_lit, IsStr_lit, Bool.not_eq_true', Bool.not_eq_false', Bool.not_true, Bool.not_false, Int.reduceLE, Int.reduceLT, Int.reduceNeg, Nat.le_refl, Int.le_refl, Nat.reduceLT, Nat.reduceLeDiff, Nat.reduceEqDiff, D.v.injEq, D.tup.injEq, D.agg.injEq, D.ro.injEq, List.cons.injEq, Value.int.injEq, Value.bool.injEq, pcond_true, pcond_false, NamelessL, Nameless, Nat.reduceMul, Nat.reduceAdd, Nat.zero_add, Int.toNat_natCast, e, e2, Nat.mul_one, u32s_cell, u32s_length, u32s_isInt xs (xs.length - 1) (by omega)]
  refine ⟨⟨by omega, by omega⟩, by omega, ⟨by omega, by omega⟩, ?_⟩
  rw [wrap_i64_of (by omega) (by omega)]; omega
def ent_ilength : Ent := fun ds => match ds with
  | [.ro n_xs ys_xs] => some (.v (.int .i64 (32 * ((unu ys_xs).length - 1) + bl ((unu ys_xs).getD ((unu ys_xs).length - 1) 0) : Nat)), (ys_xs = u32s (unu ys_xs) ∧ n_xs = (unu ys_xs).length) ∧ 0 < (unu ys_xs).length ∧ (unu ys_xs).length ≤ 1000000 ∧ Dig (unu ys_xs))
  | _ => none
theorem ent_ilength_ok : EntOk Try.prog 107 ent_ilength := by
  intro ds d c h hc; unfold ent_ilength at h; split at h
  · rename_i n_xs ys_xs; obtain ⟨rfl, rfl⟩ := pair_inj h
    obtain ⟨⟨h1, h2⟩, hc⟩ := hc; subst h2; generalize (unu ys_xs) = xs at *; subst h1
    exact ilength_pure xs hc
  · cases h
theorem nv_take_len (xs : List Nat) : nv (xs.take xs.length) = nv xs := by rw [List.take_length]
def shlT (xs : List Nat) (n i : Nat) : List Nat := dgn i (nv (xs.take i) * 2 ^ n) ++ List.replicate (xs.length + 1 - i) 0
def lowT (xs : List Nat) (n i : Nat) : Nat := nv (xs.take i) * 2 ^ n / 4294967296 ^ i
theorem lowT_lt {xs : List Nat} {n i : Nat} (hx : Dig xs) (h : i ≤ xs.length) : lowT xs n i < 2 ^ n := by
  unfold lowT
  have a := nv_lt (hx.take i)
  rw [show (xs.take i).length = i by simp; omega] at a
  rw [Nat.div_lt_iff_lt_mul (pow_pos32 i), Nat.mul_comm (2 ^ n)]
  exact Nat.mul_lt_mul_of_pos_right a (Nat.pow_pos (by decide))
theorem two32 {n : Nat} (h : n < 32) : (4294967296 : Nat) = 2 ^ n * 2 ^ (32 - n) := by rw [← Nat.pow_add, show n + (32 - n) = 32 by omega]
theorem pow32 {n : Nat} (h : n < 32) : 0 < 2 ^ n ∧ 2 ^ n ≤ 2147483648 := ⟨Nat.pow_pos (by decide), Nat.pow_le_pow_right (show 0 < 2 by decide) (show n ≤ 31 by omega)⟩
theorem shl_step {xs : List Nat} {n i : Nat} (hx : Dig xs) (hn : n < 32) (h : i < xs.length) :
    (xs.getD i 0 * 2 ^ n % 4294967296 + lowT xs n i = nv (xs.take (i + 1)) * 2 ^ n / 4294967296 ^ i % 4294967296) ∧ lowT xs n (i + 1) = xs.getD i 0 / 2 ^ (32 - n) ∧ xs.getD i 0 * 2 ^ n % 4294967296 = 2 ^ n * (xs.getD i 0 % 2 ^ (32 - n)) := by
  have hl := lowT_lt (n := n) hx (show i ≤ xs.length by omega)
  obtain ⟨hp, _⟩ := pow32 hn
  have e0 := two32 hn
  have e1 : nv (xs.take (i + 1)) * 2 ^ n / 4294967296 ^ i = lowT xs n i + xs.getD i 0 * 2 ^ n := by
    unfold lowT
    rw [nv_take_succ xs i h, Nat.add_mul, show xs.getD i 0 * 4294967296 ^ i * 2 ^ n = 4294967296 ^ i * (xs.getD i 0 * 2 ^ n) by grind, Nat.add_mul_div_left _ _ (pow_pos32 i)]
  have e2 : xs.getD i 0 * 2 ^ n % 4294967296 = 2 ^ n * (xs.getD i 0 % 2 ^ (32 - n)) := by
    rw [e0, Nat.mul_comm, Nat.mul_mod_mul_left]
  have hm := Nat.mod_lt (xs.getD i 0) (show 0 < 2 ^ (32 - n) from Nat.pow_pos (by decide))
  have hsum : 2 ^ n * (xs.getD i 0 % 2 ^ (32 - n)) + lowT xs n i < 4294967296 := by
    have : 2 ^ n * (xs.getD i 0 % 2 ^ (32 - n) + 1) ≤ 2 ^ n * 2 ^ (32 - n) := Nat.mul_le_mul_left _ hm
    rw [Nat.mul_add, Nat.mul_one, ← e0] at this
    omega
  refine ⟨?_, ?_, e2⟩
  · rw [e1, e2, Nat.add_comm (lowT xs n i), Nat.add_mod, e2, Nat.mod_eq_of_lt (show lowT xs n i < 4294967296 by omega), Nat.mod_eq_of_lt hsum]
  · have e3 : lowT xs n (i + 1) = (lowT xs n i + xs.getD i 0 * 2 ^ n) / 4294967296 := by
      rw [← e1]; unfold lowT; rw [div_pow_succ]
    rw [e3, e0, ← Nat.div_div_eq_div_mul, Nat.mul_comm (xs.getD i 0), Nat.add_mul_div_left _ _ hp, Nat.div_eq_of_lt hl, Nat.zero_add]
theorem shl_set {xs : List Nat} {n i : Nat} (hx : Dig xs) (hn : n < 32) (h : i < xs.length) : (shlT xs n i).set i (xs.getD i 0 * 2 ^ n % 4294967296 + lowT xs n i) = shlT xs n (i + 1) := by
  rw [(shl_step hx hn h).1]
  have e1 : dgn i (nv (xs.take (i + 1)) * 2 ^ n) = dgn i (nv (xs.take i) * 2 ^ n) := by
    rw [nv_take_succ xs i h, Nat.add_mul, show xs.getD i 0 * 4294967296 ^ i * 2 ^ n = 4294967296 ^ i * (xs.getD i 0 * 2 ^ n) by grind, dgn_mod]
  unfold shlT
  rw [dgn_succ, e1, List.set_append_right _ _ (by rw [dgn_length]; exact Nat.le_refl _), dgn_length, Nat.sub_self, show xs.length + 1 - i = (xs.length + 1 - (i + 1)) + 1 by omega, List.replicate_succ]
  simp
theorem shl_end {xs : List Nat} {n : Nat} (hx : Dig xs) (hn : n < 32) : (shlT xs n xs.length).set xs.length (lowT xs n xs.length) = dgn (xs.length + 1) (nv xs * 2 ^ n) := by
  have hl := lowT_lt (n := n) hx (Nat.le_refl xs.length)
  obtain ⟨hp, _⟩ := pow32 hn
  unfold shlT lowT at *
  rw [nv_take_len] at *
  rw [dgn_succ, Nat.mod_eq_of_lt (show nv xs * 2 ^ n / 4294967296 ^ xs.length < 4294967296 by omega), List.set_append_right _ _ (by rw [dgn_length]; exact Nat.le_refl _), dgn_length, Nat.sub_self, show xs.length + 1 - xs.length = 1 by omega]
  simp
theorem shlT_length {xs : List Nat} {n i : Nat} (h : i ≤ xs.length) : (shlT xs n i).length = xs.length + 1 := by simp [shlT, dgn_length]; omega
theorem or_shl {a n b : Nat} (hn : n < 32) (hb : b < 2 ^ n) : Go.bits .or .u32 ((2 ^ n * (a % 2 ^ (32 - n)) : Nat) : Int) (b : Int) = ((2 ^ n * (a % 2 ^ (32 - n)) + b : Nat) : Int) := by
  have e0 := two32 hn
  obtain ⟨hp, _⟩ := pow32 hn
  have hm := Nat.mod_lt a (show 0 < 2 ^ (32 - n) from Nat.pow_pos (by decide))
  have h1 : 2 ^ n * (a % 2 ^ (32 - n) + 1) ≤ 2 ^ n * 2 ^ (32 - n) := Nat.mul_le_mul_left _ hm
  rw [Nat.mul_add, Nat.mul_one, ← e0] at h1
  rw [bits_or_u32_nat _ _ (by omega) (by omega)]
  congr 1
  rw [Nat.mul_comm, ← Nat.shiftLeft_eq, ← Nat.shiftLeft_add_eq_or_of_lt hb, Nat.shiftLeft_eq]
def lp_shl (xs : List Nat) (n : Nat) : LoopO := loopRuleD (α := Nat) (β := Unit) (fun i => i ≤ xs.length)
  (fun i => [(0, .ro xs.length (u32s xs)), (1, .v (.int .i64 (n : Int))), (5, d_out (xs.length + 1)), (6, .v (.int .u32 (lowT xs n i : Nat))), (13, .ro xs.length (u32s xs)), (14, .v (.int .i64 (xs.length : Int))), (15, .v (.int .i64 (i : Int)))])
  (fun i => d_blk (shlT xs n i)) 0 (fun _ => True) (fun _ => (.exit 0, [(0, .ro xs.length (u32s xs)), (5, d_out (xs.length + 1)), (6, .v (.int .u32 (lowT xs n xs.length : Nat)))], d_blk (shlT xs n xs.length)))
theorem shl_rule (xs : List Nat) (n : Nat) (hpre : (xs.length ≤ 1000000 ∧ Dig xs) ∧ n < 32) : LRule Try.prog Try.f92.ntmps (loopAt ((Try.f92.body).getD .skip) 4) (lp_shl xs n) := by
  refine lruleD_of (α := Nat) (β := Unit) (call := noCalls) (lp := fun _ => none) (N := 10) T_ok mixed noCalls_ok (fun i => xs.length - i) (by kernel_rfl) (LpAll.none _) ?_
  intro i hJ
  refine of_eq (B := letI z3 := List.length xs; letI z0 := (Option.some (D.sl (0 : Nat) (0 : Nat) (z3 + (1 : Nat)) (Cap.toEnd (1 : Nat)))); letI z1 := (Option.some (D.ro z3 (u32s xs))); letI z4 := ((i : Nat) : Int); letI z2 := ((Int.toNat z4) * (1 : Nat)); letI z5 := (List.getD (u32s xs) z2 (Inhabited.default)); letI z6 := ((n : Nat) : Int); letI z11 := ((z3 : Nat) : Int); letI z7 := (Option.some (D.v (Value.int IntKind.i64 z11))); letI z8 := (Option.some (D.v (Value.int IntKind.i64 z6))); letI z9 := (IntKind.wrap IntKind.i64 ((32 : Int) - z6)); letI z10 := (u32s (shlT xs n i)); letI z12 := (((lowT xs n i) : Nat) : Int); letI z13 := (Exit.exit (0 : Nat)); (True ∧ (pcond (Decidable.decide (z4 < z11)) (True ∧ ((((0 : Int) ≤ z4) ∧ (z4 < z11)) ∧ (((z2 < (List.length (u32s xs))) ∧ (IsInt IntKind.u32 z5)) ∧ (True ∧ (True ∧ (True ∧ (True ∧ (True ∧ (True ∧ (((0 : Int) ≤ z6) ∧ (True ∧ (True ∧ ((((0 : Int) ≤ z4) ∧ (z4 < (((z3 + (1 : Nat)) : Nat) : Int))) ∧ ((((1 : Nat) = (1 : Nat)) ∧ ((((0 : Nat) + z2) + (1 : Nat)) ≤ (List.length z10))) ∧ (True ∧ (True ∧ (True ∧ (((0 : Int) ≤ z9) ∧ (True ∧ (True ∧ (True ∧ (∃ (y : Nat), (((z3 - y) < (z3 - i)) ∧ ((y ≤ z3) ∧ (((z1 = z1) ∧ ((z8 = z8) ∧ ((z0 = z0) ∧ (((Option.some (D.v (Value.int IntKind.u32 (Int.fdiv (cellInt z5) ((2 : Int) ^ (Min.min (Int.toNat z9) (32 : Nat))))))) = (Option.some (D.v (Value.int IntKind.u32 (((lowT xs n y) : Nat) : Int))))) ∧ ((z1 = z1) ∧ ((z7 = z7) ∧ (((Option.some (D.v (Value.int IntKind.i64 (IntKind.wrap IntKind.i64 (z4 + (1 : Int)))))) = (Option.some (D.v (Value.int IntKind.i64 ((y : Nat) : Int))))) ∧ True))))))) ∧ ([(Option.some (Blk.mk (41 : Nat) (List.set z10 ((0 : Nat) + z2) (D.v (Value.int IntKind.u32 (bits BinOp.or IntKind.u32 (IntKind.wrap IntKind.u32 ((cellInt z5) * ((2 : Int) ^ (Min.min (Int.toNat z6) (32 : Nat))))) z12)))) Bool.true))] = [(Option.some (Blk.mk (41 : Nat) (u32s (shlT xs n y)) Bool.true))])))))))))))))))))))))))))) (∃ (r : Unit), (True ∧ ((z13 = z13) ∧ (((z1 = z1) ∧ ((z0 = z0) ∧ (((Option.some (D.v (Value.int IntKind.u32 z12))) = (Option.some (D.v (Value.int IntKind.u32 (((lowT xs n z3) : Nat) : Int))))) ∧ True))) ∧ ([(Option.some (Blk.mk (41 : Nat) z10 Bool.true))] = [(Option.some (Blk.mk (41 : Nat) (u32s (shlT xs n z3)) Bool.true))])))))))) (by kernel_rfl) ?_
  simp only [true_and, and_true, and_self, IsInt_lit, IsBool_lit, IsStr_lit, Bool.not_eq_true', Bool.not_eq_false', Bool.not_true, Bool.not_false, Int.reduceLE, Int.reduceLT, Int.reduceNeg, Nat.le_refl, Int.le_refl, Nat.reduceLT, Nat.reduceLeDiff, Nat.reduceEqDiff, D.v.injEq, D.tup.injEq, D.agg.injEq, D.ro.injEq, List.cons.injEq, Value.int.injEq, Value.bool.injEq, pcond_true, pcond_false, NamelessL, Nameless, Nat.reduceMul, Nat.reduceAdd, Nat.zero_add, Int.toNat_natCast]
  obtain ⟨⟨hb, hx⟩, hn⟩ := hpre
  refine pcond_intro (fun h => ?_) (fun h => ?_)
  · simp only [decide_eq_true_eq] at h
    have h : i < xs.length := by omega
    obtain ⟨s1, s2, s3⟩ := shl_step hx hn h
    have hl := lowT_lt (n := n) hx (show i ≤ xs.length by omega)
    have hs := shl_set hx hn h
    have w1 : IntKind.i64.wrap (32 - (n : Int)) = ((32 - n : Nat) : Int) := by rw [wrap_i64_of (by omega) (by omega)]; omega
    have w2 : IntKind.u32.wrap (((xs.getD i 0 : Nat) : Int) * 2 ^ n) = ((xs.getD i 0 * 2 ^ n % 4294967296 : Nat) : Int) := by
      rw [wrap_u32]; simp
    have hor : Go.bits .or .u32 ((xs.getD i 0 * 2 ^ n % 4294967296 : Nat) : Int) ((lowT xs n i : Nat) : Int) = ((xs.getD i 0 * 2 ^ n % 4294967296 + lowT xs n i : Nat) : Int) := by rw [s3]; exact or_shl hn hl
    have w3 : ((xs.getD i 0 : Nat) : Int).fdiv (2 ^ (32 - n)) = ((lowT xs n (i + 1) : Nat) : Int) := by
      rw [s2, Int.fdiv_eq_ediv_of_nonneg _ (Int.le_of_lt (Int.pow_pos (by decide))), Int.natCast_ediv]; simp
    have w4 : IntKind.i64.wrap ((i : Int) + 1) = ((i + 1 : Nat) : Int) := by rw [wrap_i64_of (by omega) (by omega)]; omega
    have hlen := shlT_length (xs := xs) (n := n) (show i ≤ xs.length by omega)
    simp only [w1, w4, Nat.mul_one, Int.toNat_natCast, u32s_cell, u32s_length, hlen, show min (32 - n) 32 = 32 - n by omega, show min n 32 = n by omega, w2, w3, hor, u32s_put, hs, u32s_isInt xs i h, and_true]
    exact ⟨⟨by omega, by omega⟩, by omega, by omega, ⟨by omega, by omega⟩, by omega, by omega, i + 1, by omega, by omega, ⟨rfl, rfl⟩, rfl⟩
  · simp only [decide_eq_false_iff_not] at h
    have h : i = xs.length := by omega
    subst h
    exact ⟨(), rfl, rfl⟩
theorem kshl (xs : List Nat) (n : Nat) (hpre : (xs.length ≤ 1000000 ∧ Dig xs) ∧ n < 32) : CallJ Try.prog 92 [.ro xs.length (u32s xs), .v (.int .i64 (n : Int))] [] (.sl 0 0 (xs.length + 1) (.toEnd 1)) [some ⟨41, u32s (dgn (xs.length + 1) (nv xs * 2 ^ n)), true⟩] := by
  refine callJ_same (call := noCalls) (lp := fun k' => bif Nat.beq k' 4 then some (lp_shl xs n) else none) (N := 10) T_ok mixed noCalls_ok Try.func92 rfl (by decide) (by kernel_rfl) (by kernel_rfl)
    (of_eq (B := LRule Try.prog Try.f92.ntmps (loopAt ((Try.f92.body).getD .skip) 4) (lp_shl xs n) ∧ True) (by kernel_rfl) ⟨shl_rule xs n hpre, trivial⟩) ?_
  refine of_eq (B := letI z1 := List.length xs; letI z4 := ((z1 : Nat) : Int); letI z0 := (IntKind.wrap IntKind.i64 (z4 + (1 : Int))); letI z10 := (z1 + (1 : Nat)); letI z11 := (Cap.toEnd (1 : Nat)); letI z2 := (D.sl (0 : Nat) (0 : Nat) z10 z11); letI z3 := (Option.some (D.ro z1 (u32s xs))); letI z5 := (Option.some (D.v (Value.int IntKind.i64 ((n : Nat) : Int)))); letI z6 := (Option.some (D.v (Value.int IntKind.i64 (0 : Int)))); letI z7 := (Option.some (D.v (Value.int IntKind.i64 z4))); letI z8 := ((0 : Nat) + ((Int.toNat z4) * (1 : Nat))); letI z9 := (D.v (Value.int IntKind.u32 (0 : Int))); letI z12 := (u32s (shlT xs n z1)); (True ∧ (True ∧ (True ∧ (True ∧ ((((0 : Int) ≤ z0) ∧ ((z0 ≤ z0) ∧ ((((4 : Int) * z0) ≤ (281474976710656 : Int)) ∧ (z0 ≤ (9223372036854775807 : Int))))) ∧ (True ∧ (True ∧ (True ∧ (True ∧ (True ∧ (((0 : Nat) ≤ z1) ∧ (((z3 = z3) ∧ ((z5 = z5) ∧ (((Option.some (D.sl (0 : Nat) (0 : Nat) (Int.toNat z0) z11)) = (Option.some z2)) ∧ (((Option.some z9) = (Option.some (D.v (Value.int IntKind.u32 (((lowT xs n (0 : Nat)) : Nat) : Int))))) ∧ ((z3 = z3) ∧ ((z7 = z7) ∧ ((z6 = z6) ∧ True))))))) ∧ (([(Option.some (Blk.mk (41 : Nat) (List.replicate (Int.toNat z0) z9) Bool.true))] = [(Option.some (Blk.mk (41 : Nat) (u32s (shlT xs n (0 : Nat))) Bool.true))]) ∧ (Unit → (True → (True ∧ (True ∧ (True ∧ (True ∧ ((((0 : Int) ≤ z4) ∧ (z4 < ((z10 : Nat) : Int))) ∧ ((((1 : Nat) = (1 : Nat)) ∧ ((z8 + (1 : Nat)) ≤ (List.length z12))) ∧ (True ∧ (True ∧ (True ∧ ((z2 = z2) ∧ ([(Option.some (Blk.mk (41 : Nat) (List.set z12 z8 (D.v (Value.int IntKind.u32 (((lowT xs n z1) : Nat) : Int)))) Bool.true))] = [(Option.some (Blk.mk (41 : Nat) (u32s (dgn z10 ((nv xs) * ((2 : Nat) ^ n)))) Bool.true))]))))))))))))))))))))))))))) (by kernel_rfl) ?_
  obtain ⟨⟨hb, hx⟩, hn⟩ := hpre
  have hl := lowT_lt (n := n) hx (Nat.le_refl xs.length)
  have he := shl_end hx hn
  have hlen := shlT_length (xs := xs) (n := n) (Nat.le_refl _)
  have hw : IntKind.i64.wrap ((xs.length : Int) + 1) = ((xs.length + 1 : Nat) : Int) := by rw [wrap_i64_of (by omega) (by omega)]; omega
  have e0 : List.replicate (xs.length + 1) (D.v (Value.int IntKind.u32 0)) = u32s (List.replicate (xs.length + 1) 0) := u32s_replicate _ 0
  have e1 : shlT xs n 0 = List.replicate (xs.length + 1) 0 := by simp [shlT, dgn]
  have e2 : lowT xs n 0 = 0 := by simp [lowT, nv]
  simp only [true_and, and_true, and_self, IsInt_lit, IsBool_lit, IsStr_lit, Bool.not_eq_true', Bool.not_eq_false', Bool.not_true, Bool.not_false, Int.reduceLE, Int.reduceLT, Int.reduceNeg, Nat.le_refl, Int.le_refl, Nat.reduceLT, Nat.reduceLeDiff, Nat.reduceEqDiff, D.v.injEq, D.tup.injEq, D.agg.injEq, D.ro.injEq, List.cons.injEq, Value.int.injEq, Value.bool.injEq, pcond_true, pcond_false, NamelessL, Nameless, Nat.reduceMul, Nat.reduceAdd, Nat.zero_add, Int.toNat_natCast, hw, Int.toNat_natCast, Nat.mul_one, u32s_length, hlen, u32s_put, he, e0, e1, e2]
  exact ⟨⟨by omega, by omega, by omega⟩, Nat.zero_le _, rfl, fun _ _ => ⟨by omega, by omega⟩⟩
def entk_shl : EntK := fun ds => match ds with
  | [.ro m cs, .v (.int .i64 n)] => some ((unu cs).length + 1, .toEnd 1, ⟨41, u32s (dgn ((unu cs).length + 1) (nv (unu cs) * 2 ^ n.toNat)), true⟩, (cs = u32s (unu cs) ∧ m = (unu cs).length) ∧ ((unu cs).length ≤ 1000000 ∧ Dig (unu cs)) ∧ 0 ≤ n ∧ n < 32)
  | _ => none
theorem entk_shl_ok : EntKOk Try.prog 92 entk_shl := by
  intro ds n c blk p h hp
  unfold entk_shl at h
  split at h
  · rename_i m cs n
    simp only [Option.some.injEq, Prod.mk.injEq] at h
    obtain ⟨rfl, rfl, rfl, rfl⟩ := h
    obtain ⟨⟨hcs, hm⟩, hl, hn0, hn⟩ := hp
    obtain ⟨n, rfl⟩ := Int.eq_ofNat_of_zero_le hn0
    generalize unu cs = xs at *
    subst hcs; subst hm
    simp only [Int.toNat_natCast, Int.ofNat_eq_natCast] at *
    exact ⟨kshl xs n ⟨hl, by omega⟩, by simp [NamelessL, Nameless, u32s_nameless], u32s_nameless _⟩
  · cases h
def shrT (xs : List Nat) (n i : Nat) : List Nat := dgn i (nv xs / 2 ^ n) ++ List.replicate (xs.length - i) 0
theorem shrT_length {xs : List Nat} {n i : Nat} (h : i ≤ xs.length) : (shrT xs n i).length = xs.length := by simp [shrT, dgn_length]; omega
theorem shr_digit {xs : List Nat} {n i : Nat} (hx : Dig xs) (hn : n < 32) (h : i < xs.length) : nv xs / 2 ^ n / 4294967296 ^ i % 4294967296 = xs.getD i 0 / 2 ^ n + 2 ^ (32 - n) * (xs.getD (i + 1) 0 % 2 ^ n) ∧ xs.getD i 0 / 2 ^ n < 2 ^ (32 - n) := by
  obtain ⟨hp, _⟩ := pow32 hn
  have e0 := two32 hn
  have hp2 : 0 < 2 ^ (32 - n) := Nat.pow_pos (by decide)
  have hd := hx.get i
  have hlt : xs.getD i 0 / 2 ^ n < 2 ^ (32 - n) := by rw [Nat.div_lt_iff_lt_mul hp, Nat.mul_comm, ← e0]; exact hd
  refine ⟨?_, hlt⟩
  rw [Nat.div_div_eq_div_mul, Nat.mul_comm (2 ^ n), ← Nat.div_div_eq_div_mul, ← nv_drop_div hx (show i ≤ xs.length by omega), nv_drop_succ, nv_drop_succ xs (i + 1)]
  generalize nv (xs.drop (i + 1 + 1)) = w
  generalize xs.getD i 0 = x at *
  generalize xs.getD (i + 1) 0 = y at *
  have e1 : (x + 4294967296 * (y + 4294967296 * w)) / 2 ^ n = x / 2 ^ n + 2 ^ (32 - n) * (y + 4294967296 * w) := by
    rw [show 4294967296 * (y + 4294967296 * w) = 2 ^ n * (2 ^ (32 - n) * (y + 4294967296 * w)) by rw [← Nat.mul_assoc, ← e0], Nat.add_mul_div_left _ _ hp]
  have e2 : (2 ^ (32 - n) * (y + 4294967296 * w)) % 4294967296 = 2 ^ (32 - n) * (y % 2 ^ n) := by
    have e3 : 4294967296 = 2 ^ (32 - n) * 2 ^ n := by rw [Nat.mul_comm]; exact e0
    conv => lhs; rw [e3]
    rw [Nat.mul_mod_mul_left]
    congr 1
    rw [Nat.mul_comm (2 ^ (32 - n)), Nat.mul_assoc, Nat.add_mul_mod_self_left]
  have hm := Nat.mod_lt y hp
  have hs : x / 2 ^ n + 2 ^ (32 - n) * (y % 2 ^ n) < 4294967296 := by
    have : 2 ^ (32 - n) * (y % 2 ^ n + 1) ≤ 2 ^ (32 - n) * 2 ^ n := Nat.mul_le_mul_left _ hm
    rw [Nat.mul_add, Nat.mul_one, Nat.mul_comm (2 ^ (32 - n)) (2 ^ n), ← e0] at this
    omega
  rw [e1, Nat.add_mod, e2, Nat.mod_eq_of_lt (show x / 2 ^ n < 4294967296 by omega), Nat.mod_eq_of_lt hs]
theorem shr_set {xs : List Nat} {n i : Nat} (hx : Dig xs) (hn : n < 32) (h : i < xs.length) : (shrT xs n i).set i (xs.getD i 0 / 2 ^ n + 2 ^ (32 - n) * (xs.getD (i + 1) 0 % 2 ^ n)) = shrT xs n (i + 1) := by
  rw [← (shr_digit hx hn h).1]
  unfold shrT
  rw [dgn_succ, List.set_append_right _ _ (by rw [dgn_length]; exact Nat.le_refl _), dgn_length, Nat.sub_self, show xs.length - i = (xs.length - (i + 1)) + 1 by omega, List.replicate_succ]
  simp
theorem or_shr {a n y : Nat} (hn : n < 32) (ha : a < 2 ^ (32 - n)) : Go.bits .or .u32 (a : Int) ((2 ^ (32 - n) * (y % 2 ^ n) : Nat) : Int) = ((a + 2 ^ (32 - n) * (y % 2 ^ n) : Nat) : Int) := by
  have e0 := two32 hn
  obtain ⟨hp, _⟩ := pow32 hn
  have hm := Nat.mod_lt y hp
  have h1 : 2 ^ (32 - n) * (y % 2 ^ n + 1) ≤ 2 ^ (32 - n) * 2 ^ n := Nat.mul_le_mul_left _ hm
  rw [Nat.mul_add, Nat.mul_one, Nat.mul_comm (2 ^ (32 - n)) (2 ^ n), ← e0] at h1
  rw [bits_or_u32_nat _ _ (by omega) (by omega)]
  congr 1
  rw [Nat.or_comm, Nat.mul_comm, ← Nat.shiftLeft_eq, ← Nat.shiftLeft_add_eq_or_of_lt ha, Nat.shiftLeft_eq, Nat.add_comm]
theorem hshr {xs : List Nat} {n : Int} (h : (xs.length ≤ 1000000 ∧ Dig xs) ∧ 0 ≤ n ∧ n < 32) : (xs.length ≤ 1000000 ∧ Dig xs) ∧ n.toNat < 32 := ⟨h.1, by omega⟩
def lp_shrLoop (xs : List Nat) (n : Nat) : LoopO := loopRule (α := Nat) (β := Unit) [some 0] (fun i => i ≤ xs.length) (fun i => [(0, .ro xs.length (u32s xs)), (1, .v (.int .i64 (n : Int))), (5, d_out xs.length), (11, .v (.int .i64 (xs.length : Int))), (12, .v (.int .i64 (i : Int)))]) (fun i => d_blk (shrT xs n i)) (0) (fun _ => True) (fun _ => (.exit 0, [(5, d_out xs.length)], d_blk (shrT xs n xs.length)))
theorem shrLoop_rule (xs : List Nat) (n : Nat) (hpre : (xs.length ≤ 1000000 ∧ Dig xs) ∧ n < 32) : LRuleP Try.prog Try.f94.ntmps (loopAt ((Try.f94.body).getD .skip) 3) (lp_shrLoop xs n) := by
  refine lrule_of (α := Nat) (β := Unit) (call := (addPure 96 ent_iat noCalls)) (lp := fun _ => none) (N := 10) T_ok mixed (addPure_ok ent_iat_ok noCalls_ok) (fun i => xs.length - i) (by kernel_rfl) (LpAllP.none _) ?_
  intro x hJ
  refine of_eq (B := letI z0 := List.length xs; letI z1 := ((x : Nat) : Int); letI z2 := ((Int.toNat z1) * (1 : Nat)); letI z13 := (Exit.exit (0 : Nat)); letI z16 := (Prod.mk (5 : Nat) (d_out z0)); letI z3 := (Prod.mk z13 (Prod.mk [z16] (d_blk (shrT xs n z0)))); letI z4 := (IntKind.wrap IntKind.i64 (z1 + (1 : Int))); letI z5 := ((n : Nat) : Int); letI z6 := (Prod.mk (5 : Nat) (D.sl (0 : Nat) (0 : Nat) z0 (Cap.toEnd (1 : Nat)))); letI z15 := ((z0 : Nat) : Int); letI z7 := (Prod.mk (11 : Nat) (D.v (Value.int IntKind.i64 z15))); letI z8 := (Prod.mk (1 : Nat) (D.v (Value.int IntKind.i64 z5))); letI z9 := (((0 : Int) ≤ z1) ∧ (z1 < z15)); letI z10 := (List.getD (u32s xs) z2 (Inhabited.default)); letI z11 := (IntKind.wrap IntKind.i64 ((32 : Int) - z5)); letI z12 := (Prod.mk (0 : Nat) (D.ro z0 (u32s xs))); letI z14 := (u32s (shrT xs n x)); letI z17 := (unu (u32s xs)); letI z18 := (List (Option Nat)); (True ∧ (pcond (Decidable.decide (z1 < z15)) (True ∧ (True ∧ (True ∧ (True ∧ (True ∧ (True ∧ (z9 ∧ (((z2 < (List.length (u32s xs))) ∧ (IsInt IntKind.u32 z10)) ∧ (True ∧ (((0 : Int) ≤ z5) ∧ (True ∧ (True ∧ (True ∧ (((((u32s xs) = (u32s z17)) ∧ (z0 = (List.length z17))) ∧ ((0 : Int) ≤ z4)) ∧ (True ∧ (True ∧ (((0 : Int) ≤ z11) ∧ (True ∧ (z9 ∧ ((((1 : Nat) = (1 : Nat)) ∧ ((((0 : Nat) + z2) + (1 : Nat)) ≤ (List.length z14))) ∧ ((Bool.true = Bool.true) ∧ (True ∧ (True ∧ (∃ (y : Nat), (∃ (kp : z18), (((z0 - y) < (z0 - x)) ∧ ((y ≤ z0) ∧ (viewAll kp [z12, z8, z6, z7, (Prod.mk (12 : Nat) (D.v (Value.int IntKind.i64 z4)))] [(Option.some (Blk.mk (41 : Nat) (List.set z14 ((0 : Nat) + z2) (D.v (Value.int IntKind.u32 (bits BinOp.or IntKind.u32 (Int.fdiv (cellInt z10) ((2 : Int) ^ (Min.min (Int.toNat z5) (32 : Nat)))) (IntKind.wrap IntKind.u32 ((((List.getD z17 (Int.toNat z4) (0 : Nat)) : Nat) : Int) * ((2 : Int) ^ (Min.min (Int.toNat z11) (32 : Nat))))))))) Bool.true))] [z12, z8, z16, z7, (Prod.mk (12 : Nat) (D.v (Value.int IntKind.i64 ((y : Nat) : Int))))] (d_blk (shrT xs n y)))))))))))))))))))))))))))))) (∃ (r : Unit), (∃ (kp : z18), (True ∧ ((z13 = z13) ∧ (viewAll kp [z6] [(Option.some (Blk.mk (41 : Nat) z14 Bool.true))] (Prod.fst (Prod.snd ((fun (x_1 : Unit) => z3) r))) (Prod.snd (Prod.snd ((fun (x_1 : Unit) => z3) r))))))))))) (by kernel_rfl) ?_
  obtain ⟨⟨hb, hx⟩, hn⟩ := hpre
  simp only [true_and, and_true, and_self, IsInt_lit, IsBool_lit, IsStr_lit, Bool.not_eq_true', Bool.not_eq_false', Bool.not_true, Bool.not_false, Int.reduceLE, Int.reduceLT, Int.reduceNeg, Nat.le_refl, Int.le_refl, Nat.reduceLT, Nat.reduceLeDiff, Nat.reduceEqDiff, D.v.injEq, D.tup.injEq, D.agg.injEq, D.ro.injEq, List.cons.injEq, Value.int.injEq, Value.bool.injEq, pcond_true, pcond_false, NamelessL, Nameless, Nat.reduceMul, Nat.reduceAdd, Nat.zero_add, Int.toNat_natCast, unu_u32s]
  refine pcond_intro (fun h => ?_) (fun h => ⟨(), [some 0], ?_⟩)
  · simp only [decide_eq_true_eq] at h
    have h : x < xs.length := by omega
    obtain ⟨s1, s2⟩ := shr_digit hx hn h
    have hs := shr_set hx hn h
    have w0 : IntKind.i64.wrap ((x : Int) + 1) = ((x + 1 : Nat) : Int) := by rw [wrap_i64_of (by omega) (by omega)]; omega
    have w1 : IntKind.i64.wrap (32 - (n : Int)) = ((32 - n : Nat) : Int) := by rw [wrap_i64_of (by omega) (by omega)]; omega
    have w2 : IntKind.u32.wrap (((xs.getD (x + 1) 0 : Nat) : Int) * 2 ^ (32 - n)) = ((2 ^ (32 - n) * (xs.getD (x + 1) 0 % 2 ^ n) : Nat) : Int) := by
      have e3 : (4294967296 : Nat) = 2 ^ (32 - n) * 2 ^ n := by rw [Nat.mul_comm]; exact two32 hn
      rw [wrap_u32, ← Nat.mul_mod_mul_left, ← e3, Nat.mul_comm]; simp
    have w3 : ((xs.getD x 0 : Nat) : Int).fdiv (2 ^ n) = ((xs.getD x 0 / 2 ^ n : Nat) : Int) := by
      rw [Int.fdiv_eq_ediv_of_nonneg _ (Int.le_of_lt (Int.pow_pos (by decide))), Int.natCast_ediv]; simp
    have hlen := shrT_length (xs := xs) (n := n) (show x ≤ xs.length by omega)
    simp only [w0, w1, Nat.mul_one, Int.toNat_natCast, u32s_cell, u32s_length, hlen, show min (32 - n) 32 = 32 - n by omega, show min n 32 = n by omega, w2, w3, or_shr hn s2, u32s_put, hs, u32s_isInt xs x h, and_true]
    refine ⟨⟨by omega, by omega⟩, h, by omega, by omega, by omega, ⟨by omega, by omega⟩, by omega, x + 1, [some 0], by omega, by omega, ?_⟩
    refine of_eq (B := letI z6 := (u32s (shrT xs n (x + (1 : Nat)))); letI z0 := (Option.some (Blk.mk (41 : Nat) z6 Bool.true)); letI z1 := List.length xs; letI z2 := (D.v (Value.int IntKind.i64 (((x + (1 : Nat)) : Nat) : Int))); letI z3 := (D.sl (0 : Nat) (0 : Nat) z1 (Cap.toEnd (1 : Nat))); letI z4 := (D.v (Value.int IntKind.i64 ((z1 : Nat) : Int))); letI z5 := (D.v (Value.int IntKind.i64 ((n : Nat) : Int))); letI z7 := ([] : List (Option Blk)); letI z8 := (D.ro z1 (u32s xs)); ((Bool.true = Bool.true) ∧ ((((z0 = z0) ∧ (NamelessL z6)) ∧ (z7 = z7)) ∧ ((True ∧ (z8 = z8)) ∧ ((True ∧ (z5 = z5)) ∧ ((True ∧ (z3 = z3)) ∧ ((True ∧ (z4 = z4)) ∧ ((True ∧ (z2 = z2)) ∧ True)))))))) (by kernel_rfl) ?_
    simp [u32s_nameless]
  · simp only [decide_eq_false_iff_not] at h
    have h : x = xs.length := by omega
    subst h
    refine of_eq (B := letI z2 := (u32s (shrT xs n (List.length xs))); letI z0 := (Option.some (Blk.mk (41 : Nat) z2 Bool.true)); letI z1 := (D.sl (0 : Nat) (0 : Nat) (List.length xs) (Cap.toEnd (1 : Nat))); letI z3 := ([] : List (Option Blk)); ((Bool.true = Bool.true) ∧ ((((z0 = z0) ∧ (NamelessL z2)) ∧ (z3 = z3)) ∧ ((True ∧ (z1 = z1)) ∧ True)))) (by kernel_rfl) ?_
    simp [u32s_nameless]
theorem ishr_pure (xs : List Nat) (n : Int) (hpre : (xs.length ≤ 1000000 ∧ Dig xs) ∧ 0 ≤ n ∧ n < 32) : PureJ Try.prog 94 [.ro xs.length (u32s xs), .v (.int .i64 n)] (.ro (dg (nv xs / 2 ^ n.toNat)).length (u32s (dg (nv xs / 2 ^ n.toNat)))) := by
  refine pureJ_of_vcpN (call := (addPure 89 ent_itrim noCalls)) (lp := fun k => bif Nat.beq k 3 then some (lp_shrLoop xs n.toNat) else none) (N := 10) T_ok mixed (addPure_ok ent_itrim_ok noCalls_ok) Try.func94 rfl (by decide) (by kernel_rfl) (by kernel_rfl) (of_eq (B := LRuleP Try.prog Try.f94.ntmps (loopAt ((Try.f94.body).getD .skip) 3) (lp_shrLoop xs n.toNat) ∧ True) (by kernel_rfl) ⟨shrLoop_rule xs n.toNat (hshr hpre), trivial⟩) (by first | trivial | (simp only [NamelessL, Nameless, and_self, and_true, true_and]; done) | (simp [NamelessL, Nameless, u32s_nameless, namelessL_ints]; done)) (by first | trivial | (simp only [NamelessL, Nameless, and_self, and_true, true_and]; done) | (simp [NamelessL, Nameless, u32s_nameless, namelessL_ints]; done)) ?_
  refine of_eq (B := letI z2 := List.length xs; letI z4 := (u32s (shrT xs (Int.toNat n) z2)); letI z0 := (List.take (z2 * (1 : Nat)) (List.drop (0 : Nat) z4)); letI z1 := ((z2 : Nat) : Int); letI z3 := (List.replicate (Int.toNat z1) (D.v (Value.int IntKind.u32 (0 : Int)))); letI z5 := (dg ((nv xs) / ((2 : Nat) ^ (Int.toNat n)))); letI z6 := (D.v (Value.int IntKind.i64 (0 : Int))); letI z7 := (D.v (Value.int IntKind.i64 z1)); letI z8 := ([] : List (Option Blk)); letI z9 := (List.length (unu z0)); letI z10 := (Cap.toEnd (1 : Nat)); letI z11 := (D.ro z2 (u32s xs)); (True ∧ (True ∧ (True ∧ ((((0 : Int) ≤ z1) ∧ ((z1 ≤ z1) ∧ ((((4 : Int) * z1) ≤ (281474976710656 : Int)) ∧ (z1 ≤ (9223372036854775807 : Int))))) ∧ (True ∧ (True ∧ (True ∧ (True ∧ (((0 : Nat) ≤ z2) ∧ (((Bool.true = Bool.true) ∧ (((((Option.some (Blk.mk (41 : Nat) (u32s (shrT xs (Int.toNat n) (0 : Nat))) Bool.true)) = (Option.some (Blk.mk (41 : Nat) z3 Bool.true))) ∧ (NamelessL z3)) ∧ (z8 = z8)) ∧ ((True ∧ (z11 = z11)) ∧ ((True ∧ ((D.v (Value.int IntKind.i64 n)) = (D.v (Value.int IntKind.i64 (((Int.toNat n) : Nat) : Int))))) ∧ ((True ∧ ((D.sl (0 : Nat) (0 : Nat) (Int.toNat z1) z10) = (D.sl (0 : Nat) (0 : Nat) z2 z10))) ∧ ((True ∧ (z7 = z7)) ∧ ((True ∧ (z6 = z6)) ∧ True))))))) ∧ (Unit → (True → (True ∧ (((((NamelessL z4) ∧ (((0 : Nat) < (1 : Nat)) ∧ (((0 : Nat) + (z2 * (1 : Nat))) ≤ (List.length z4)))) ∧ True) ∧ (((z0 = (u32s (unu z0))) ∧ (z2 = z9)) ∧ (z9 ≤ (1000000 : Nat)))) ∧ (True ∧ (True ∧ (True ∧ ((D.ro (List.length (trimL (unu z0))) (u32s (trimL (unu z0)))) = (D.ro (List.length z5) (u32s z5))))))))))))))))))))) (by kernel_rfl) ?_
  obtain ⟨⟨hb, hx⟩, hn0, hn⟩ := hpre
  obtain ⟨n, rfl⟩ := Int.eq_ofNat_of_zero_le hn0
  have e0 : List.replicate xs.length (D.v (Value.int IntKind.u32 0)) = u32s (List.replicate xs.length 0) := u32s_replicate _ 0
  have e1 : shrT xs n 0 = List.replicate xs.length 0 := by simp [shrT, dgn]
  have e2 : shrT xs n xs.length = dgn xs.length (nv xs / 2 ^ n) := by simp [shrT]
  have e3 : List.take xs.length (u32s (dgn xs.length (nv xs / 2 ^ n))) = u32s (dgn xs.length (nv xs / 2 ^ n)) := by rw [u32s_take, List.take_of_length_le (by rw [dgn_length]; exact Nat.le_refl _)]
  have ht : trimL (dgn xs.length (nv xs / 2 ^ n)) = dg (nv xs / 2 ^ n) := trimL_dgn (Nat.lt_of_le_of_lt (Nat.div_le_self _ _) (nv_lt hx))
  simp only [Int.ofNat_eq_natCast, true_and, and_true, and_self, IsInt_lit, IsBool_lit, IsStr_lit, Bool.not_eq_true', Bool.not_eq_false', Bool.not_true, Bool.not_false, Int.reduceLE, Int.reduceLT, Int.reduceNeg, Nat.le_refl, Int.le_refl, Nat.reduceLT, Nat.reduceLeDiff, Nat.reduceEqDiff, D.v.injEq, D.tup.injEq, D.agg.injEq, D.ro.injEq, List.cons.injEq, Value.int.injEq, Value.bool.injEq, pcond_true, pcond_false, NamelessL, Nameless, Nat.reduceMul, Nat.reduceAdd, Nat.zero_add, Int.toNat_natCast, e0, e1, e2, e3, Nat.mul_one, List.drop_zero, unu_u32s, ht, u32s_length, dgn_length]
  exact ⟨⟨by omega, by omega, by omega⟩, by omega, u32s_nameless _, fun _ _ => ⟨u32s_nameless _, by omega⟩⟩
def ent_ishr : Ent := fun ds => match ds with
  | [.ro n_xs ys_xs, .v (.int .i64 n)] => some (.ro (dg (nv (unu ys_xs) / 2 ^ n.toNat)).length (u32s (dg (nv (unu ys_xs) / 2 ^ n.toNat))), (ys_xs = u32s (unu ys_xs) ∧ n_xs = (unu ys_xs).length) ∧ ((unu ys_xs).length ≤ 1000000 ∧ Dig (unu ys_xs)) ∧ 0 ≤ n ∧ n < 32)
  | _ => none
theorem ent_ishr_ok : EntOk Try.prog 94 ent_ishr := by
  intro ds d c h hc; unfold ent_ishr at h; split at h
  · rename_i n_xs ys_xs n; obtain ⟨rfl, rfl⟩ := pair_inj h
    obtain ⟨⟨h1, h2⟩, hc⟩ := hc; subst h2; generalize (unu ys_xs) = xs at *; subst h1
    exact ishr_pure xs _ hc
  · cases h
def lp_subTimes (off : Nat) (zs ys : List Nat) (k : Nat) : LoopO := loopRuleD (α := Nat) (β := Unit) (fun i => i ≤ ys.length)
  (fun i => [(0, d_at off ys.length), (1, .ro ys.length (u32s ys)), (2, .v (.int .u64 (k : Int))), (7, .v (.int .u64 (bS off zs ys k i : Nat))), (12, .ro ys.length (u32s ys)), (13, .v (.int .i64 (ys.length : Int))), (14, .v (.int .i64 (i : Int)))])
  (fun i => d_blk2 (subT off zs ys k i)) 0 (fun _ => True) (fun _ => (.exit 0, [(7, .v (.int .u64 (bS off zs ys k ys.length : Nat)))], d_blk2 (subT off zs ys k ys.length)))
theorem subTimes_rule (off : Nat) (zs ys : List Nat) (k : Nat) (hpre : (off + ys.length ≤ zs.length ∧ zs.length ≤ 1000000) ∧ (Dig zs ∧ Dig ys) ∧ k < 4294967296) : LRule Try.prog Try.f124.ntmps (loopAt ((Try.f124.body).getD .skip) 3) (lp_subTimes off zs ys k) := by
  refine lruleD_of (α := Nat) (β := Unit) (call := noCalls) (lp := fun _ => none) (N := 10) T_ok mixed noCalls_ok (fun i => ys.length - i) (by kernel_rfl) (LpAll.none _) ?_
  intro i hJ
  refine of_eq (B := letI z14 := ((i : Nat) : Int); letI z1 := ((Int.toNat z14) * (1 : Nat)); letI z15 := (List.getD (u32s ys) z1 (Inhabited.default)); letI z16 := (((bS off zs ys k i) : Nat) : Int); letI z0 := (IntKind.wrap IntKind.u64 ((IntKind.wrap IntKind.u64 ((IntKind.wrap IntKind.u64 (cellInt z15)) * ((k : Nat) : Int))) + z16)); letI z3 := List.length ys; letI z17 := ((z3 : Nat) : Int); letI z2 := (((0 : Int) ≤ z14) ∧ (z14 < z17)); letI z10 := (u32s (subT off zs ys k i)); letI z4 := (List.getD z10 (off + z1) (Inhabited.default)); letI z5 := (Option.some (D.ro z3 (u32s ys))); letI z19 := IntKind.wrap IntKind.u32 z0; letI z6 := (Option.some (Blk.mk (41 : Nat) (List.set z10 (off + z1) (D.v (Value.int IntKind.u32 (IntKind.wrap IntKind.u32 ((cellInt z4) - z19))))) Bool.true)); letI z7 := (Option.some (D.sl (0 : Nat) off z3 (Cap.exact z3 (1 : Nat)))); letI z8 := (Option.some (D.v (Value.int IntKind.i64 z17))); letI z9 := (Option.some (D.v (Value.int IntKind.u64 ((k : Nat) : Int)))); letI z11 := (((off + z1) < (List.length z10)) ∧ (IsInt IntKind.u32 z4)); letI z12 := (Option.some (D.v (Value.int IntKind.i64 (IntKind.wrap IntKind.i64 (z14 + (1 : Int)))))); letI z13 := (((1 : Nat) = (1 : Nat)) ∧ (((off + z1) + (1 : Nat)) ≤ (List.length z10))); letI z18 := (Int.fdiv z0 (4294967296 : Int)); letI z20 := (Exit.exit (0 : Nat)); (True ∧ (pcond (Decidable.decide (z14 < z17)) (True ∧ (z2 ∧ (((z1 < (List.length (u32s ys))) ∧ (IsInt IntKind.u32 z15)) ∧ (True ∧ (True ∧ (True ∧ (True ∧ (True ∧ (True ∧ (True ∧ (True ∧ (True ∧ (True ∧ (True ∧ (True ∧ (True ∧ (((0 : Int) ≤ (32 : Int)) ∧ (True ∧ (True ∧ (True ∧ (z2 ∧ (z11 ∧ (True ∧ (True ∧ (pcond (Decidable.decide ((cellInt z4) < z19)) (True ∧ (True ∧ (True ∧ (True ∧ (True ∧ (z2 ∧ (z11 ∧ (True ∧ (True ∧ (z2 ∧ (z13 ∧ (True ∧ (True ∧ (∃ (y : Nat), (((z3 - y) < (z3 - i)) ∧ ((y ≤ z3) ∧ (((z7 = z7) ∧ ((z5 = z5) ∧ ((z9 = z9) ∧ (((Option.some (D.v (Value.int IntKind.u64 (IntKind.wrap IntKind.u64 (z18 + (1 : Int)))))) = (Option.some (D.v (Value.int IntKind.u64 (((bS off zs ys k y) : Nat) : Int))))) ∧ ((z5 = z5) ∧ ((z8 = z8) ∧ ((z12 = (Option.some (D.v (Value.int IntKind.i64 ((y : Nat) : Int))))) ∧ True))))))) ∧ ([z6] = [(Option.some (Blk.mk (41 : Nat) (u32s (subT off zs ys k y)) Bool.true))])))))))))))))))))) (True ∧ (True ∧ (z2 ∧ (z11 ∧ (True ∧ (True ∧ (z2 ∧ (z13 ∧ (True ∧ (True ∧ (∃ (y : Nat), (((z3 - y) < (z3 - i)) ∧ ((y ≤ z3) ∧ (((z7 = z7) ∧ ((z5 = z5) ∧ ((z9 = z9) ∧ (((Option.some (D.v (Value.int IntKind.u64 z18))) = (Option.some (D.v (Value.int IntKind.u64 (((bS off zs ys k y) : Nat) : Int))))) ∧ ((z5 = z5) ∧ ((z8 = z8) ∧ ((z12 = (Option.some (D.v (Value.int IntKind.i64 ((y : Nat) : Int))))) ∧ True))))))) ∧ ([z6] = [(Option.some (Blk.mk (41 : Nat) (u32s (subT off zs ys k y)) Bool.true))])))))))))))))))))))))))))))))))))))))))) (∃ (r : Unit), (True ∧ ((z20 = z20) ∧ ((((Option.some (D.v (Value.int IntKind.u64 z16))) = (Option.some (D.v (Value.int IntKind.u64 (((bS off zs ys k z3) : Nat) : Int))))) ∧ True) ∧ ([(Option.some (Blk.mk (41 : Nat) z10 Bool.true))] = [(Option.some (Blk.mk (41 : Nat) (u32s (subT off zs ys k z3)) Bool.true))])))))))) (by kernel_rfl) ?_
  simp only [true_and, and_true, and_self, IsInt_lit, IsBool_lit, IsStr_lit, Bool.not_eq_true', Bool.not_eq_false', Bool.not_true, Bool.not_false, Int.reduceLE, Int.reduceLT, Int.reduceNeg, Nat.le_refl, Int.le_refl, Nat.reduceLT, Nat.reduceLeDiff, Nat.reduceEqDiff, D.v.injEq, D.tup.injEq, D.agg.injEq, D.ro.injEq, List.cons.injEq, Value.int.injEq, Value.bool.injEq, pcond_true, pcond_false, NamelessL, Nameless, Nat.reduceMul, Nat.reduceAdd, Nat.zero_add, Int.toNat_natCast]
  obtain ⟨⟨hl, hb⟩, ⟨hz, hy⟩, hk⟩ := hpre
  refine pcond_intro (fun h => ?_) (fun h => ?_)
  · simp only [decide_eq_true_eq] at h
    have h : i < ys.length := by omega
    have g := subT_get (ys := ys) (k := k) (show off + i < zs.length by omega)
    have hlen := subT_length (ys := ys) (k := k) (show off + i ≤ zs.length by omega)
    obtain ⟨hst, _⟩ := subT_step (k := k) hz (show off + i < zs.length by omega) h
    have hs := subT_set (k := k) hz (show off + i < zs.length by omega) h
    have hbk := bS_le (k := k) hy hz (show off + i ≤ zs.length by omega) hJ
    have hyi := hy.get i
    have hzi := hz.get (off + i)
    have hmul : ys.getD i 0 * k + bS off zs ys k i < 18446744073709551616 := by
      have : ys.getD i 0 * k ≤ 4294967295 * 4294967295 := Nat.mul_le_mul (by omega) (by omega)
      omega
    simp only [Nat.mul_one, u32s_cell, u32s_length, hlen, g, u32s_isInt ys i h, u32s_isInt (subT off zs ys k i) (off + i) (by omega), and_true]
    have ht : IntKind.u64.wrap (IntKind.u64.wrap (IntKind.u64.wrap ((ys.getD i 0 : Nat) : Int) * (k : Int)) + ((bS off zs ys k i : Nat) : Int)) = ((ys.getD i 0 * k + bS off zs ys k i : Nat) : Int) := by
      rw [wrap_u64_of (n := ((ys.getD i 0 : Nat) : Int)) (by omega) (by omega), ← Int.natCast_mul, wrap_u64_of (n := ((ys.getD i 0 * k : Nat) : Int)) (by omega) (by omega), wrap_u64_of (by omega) (by omega)]; omega
    have w1 : IntKind.i64.wrap ((i : Int) + 1) = ((i + 1 : Nat) : Int) := by rw [wrap_i64_of (by omega) (by omega)]; omega
    simp only [ht, w1]
    generalize ys.getD i 0 * k + bS off zs ys k i = t at *
    generalize zs.getD (off + i) 0 = u at *
    have e1 : (t : Int).fdiv 4294967296 = ((t / 4294967296 : Nat) : Int) := by rw [Int.fdiv_eq_ediv_of_nonneg _ (by omega)]; omega
    have e2 : IntKind.u32.wrap (t : Int) = ((t % 4294967296 : Nat) : Int) := by rw [wrap_u32]; omega
    have e3 : IntKind.u32.wrap ((u : Int) - ((t % 4294967296 : Nat) : Int)) = (((u + 4294967296 - t % 4294967296) % 4294967296 : Nat) : Int) := by rw [wrap_u32]; omega
    have e4 : t / 4294967296 < 4294967296 := by omega
    simp only [e1, e2, e3, u32s_put, hs]
    refine ⟨⟨by omega, by omega⟩, h, ⟨by omega, by omega⟩, by omega, pcond_intro (fun h2 => ?_) (fun h2 => ?_)⟩
    · simp only [decide_eq_true_eq] at h2
      rw [if_pos (by omega)] at hst
      refine ⟨⟨by omega, by omega⟩, by omega, ⟨by omega, by omega⟩, by omega, i + 1, by omega, by omega, ⟨?_, rfl⟩, rfl⟩
      rw [hst, wrap_u64_of (by omega) (by omega)]; rfl
    · simp only [decide_eq_false_iff_not] at h2
      rw [if_neg (by omega)] at hst
      refine ⟨⟨by omega, by omega⟩, by omega, ⟨by omega, by omega⟩, by omega, i + 1, by omega, by omega, ⟨?_, rfl⟩, rfl⟩
      rw [hst, Nat.add_zero]
  · simp only [decide_eq_false_iff_not] at h
    have h : i = ys.length := by omega
    subst h
    exact ⟨(), rfl, rfl⟩
theorem subTimes_mut (off : Nat) (zs ys : List Nat) (k : Nat) (hpre : (off + ys.length ≤ zs.length ∧ zs.length ≤ 1000000) ∧ (Dig zs ∧ Dig ys) ∧ k < 4294967296) : MutJ Try.prog 124 off ys.length (.exact ys.length 1) [.ro ys.length (u32s ys), .v (.int .u64 (k : Int))] ⟨41, u32s zs, true⟩ (.v (.int .u64 (bS off zs ys k ys.length : Nat))) ⟨41, u32s (subT off zs ys k ys.length), true⟩ := by
  refine mutJ_of_vcx (call := noCalls) (lp := fun k' => bif Nat.beq k' 3 then some (lp_subTimes off zs ys k) else none) (N := 10) T_ok mixed noCalls_ok Try.func124 rfl (by decide) (by kernel_rfl) (by kernel_rfl)
    (of_eq (B := LRule Try.prog Try.f124.ntmps (loopAt ((Try.f124.body).getD .skip) 3) (lp_subTimes off zs ys k) ∧ True) (by kernel_rfl) ⟨subTimes_rule off zs ys k hpre, trivial⟩) (by simp [NamelessL, Nameless, u32s_nameless]) (by simp [Nameless]) (u32s_nameless _) (u32s_nameless _) ?_
  refine of_eq (B := letI z0 := List.length ys; letI z1 := (Option.some (D.ro z0 (u32s ys))); letI z2 := (Option.some (Blk.mk (41 : Nat) (u32s (subT off zs ys k z0)) Bool.true)); letI z3 := (D.v (Value.int IntKind.u64 (((bS off zs ys k z0) : Nat) : Int))); letI z4 := (Option.some (D.sl (0 : Nat) off z0 (Cap.exact z0 (1 : Nat)))); letI z5 := (Option.some (D.v (Value.int IntKind.i64 ((z0 : Nat) : Int)))); letI z6 := (Option.some (D.v (Value.int IntKind.u64 ((k : Nat) : Int)))); letI z7 := (Option.some (D.v (Value.int IntKind.i64 (0 : Int)))); (True ∧ (True ∧ (True ∧ (True ∧ (True ∧ (((0 : Nat) ≤ z0) ∧ (((z4 = z4) ∧ ((z1 = z1) ∧ ((z6 = z6) ∧ (((Option.some (D.v (Value.int IntKind.u64 (0 : Int)))) = (Option.some (D.v (Value.int IntKind.u64 (((bS off zs ys k (0 : Nat)) : Nat) : Int))))) ∧ ((z1 = z1) ∧ ((z5 = z5) ∧ ((z7 = z7) ∧ True))))))) ∧ (([(Option.some (Blk.mk (41 : Nat) (u32s zs) Bool.true))] = [(Option.some (Blk.mk (41 : Nat) (u32s (subT off zs ys k (0 : Nat))) Bool.true))]) ∧ (Unit → (True → (True ∧ (True ∧ (True ∧ ((z3 = z3) ∧ ([z2] = [z2])))))))))))))))) (by kernel_rfl) ?_
  simp only [true_and, and_true, and_self, IsInt_lit, IsBool_lit, IsStr_lit, Bool.not_eq_true', Bool.not_eq_false', Bool.not_true, Bool.not_false, Int.reduceLE, Int.reduceLT, Int.reduceNeg, Nat.le_refl, Int.le_refl, Nat.reduceLT, Nat.reduceLeDiff, Nat.reduceEqDiff, D.v.injEq, D.tup.injEq, D.agg.injEq, D.ro.injEq, List.cons.injEq, Value.int.injEq, Value.bool.injEq, pcond_true, pcond_false, NamelessL, Nameless, Nat.reduceMul, Nat.reduceAdd, Nat.zero_add, Int.toNat_natCast]
  obtain ⟨e1, e2⟩ := subT_nil off zs ys k
  exact ⟨Nat.zero_le _, by rw [e2]; rfl, by rw [e1], fun _ _ => trivial⟩
def entm_subTimes : EntM := fun off n c plain blk => match c, plain, blk with
  | .exact cap 1, [.ro m ys, .v (.int .u64 k)], ⟨ty, cs, full⟩ => some (.v (.int .u64 (bS off (unu cs) (unu ys) k.toNat (unu ys).length : Nat)), ⟨ty, u32s (subT off (unu cs) (unu ys) k.toNat (unu ys).length), full⟩,
      ((ty = 41 ∧ full = true) ∧ (cs = u32s (unu cs) ∧ ys = u32s (unu ys))) ∧ ((cap = n ∧ n = (unu ys).length ∧ m = (unu ys).length) ∧ 0 ≤ k ∧ k < 4294967296) ∧ (off + (unu ys).length ≤ (unu cs).length ∧ (unu cs).length ≤ 1000000) ∧ Dig (unu cs) ∧ Dig (unu ys))
  | _, _, _ => none
theorem entm_subTimes_ok : EntMOk Try.prog 124 entm_subTimes := by
  intro off n c plain blk d blk' p h hp
  unfold entm_subTimes at h
  split at h
  · rename_i cap m ys k ty cs full
    simp only [Option.some.injEq, Prod.mk.injEq] at h
    obtain ⟨rfl, rfl, rfl⟩ := h
    obtain ⟨⟨⟨rfl, rfl⟩, hcs, hys⟩, ⟨⟨rfl, hn, hm⟩, hk0, hk⟩, hl, hz, hy⟩ := hp
    obtain ⟨k, rfl⟩ := Int.eq_ofNat_of_zero_le hk0
    generalize unu cs = zs at *
    generalize unu ys = yl at *
    subst hcs; subst hys; subst hn; subst hm
    simp only [Int.ofNat_eq_natCast, Int.toNat_natCast] at *
    exact subTimes_mut off zs yl k ⟨hl, ⟨hz, hy⟩, by omega⟩
  · cases h
end Go.Proofs.Ythnhfkpihbjddaa
end
