import Derived.Test.YtfleadelfklenaaGreatDoorZGw18
section
namespace Go.Proofs.YtfleadelfklenaaGreatDoor
open Go.VD
set_option linter.unusedVariables false
set_option linter.unusedSimpArgs false
set_option maxRecDepth 100000
def d_chk (n : Nat) (xb : List D) (m1 m2 : Nat) : List D := [.ro n xb, .ifc itTy (.ptr m1 0), .ifc itTy (.ptr m2 0)]
def cnE (l : List ByteArray) (r : Rly) : Int := bif nameS r.n then (bif hasN l r.n then 8 else 0) else 7
def cnS (l : List ByteArray) (r : Rly) : List ByteArray := bif nameS r.n then putN l r.n else l
def kOk (kind : Int) : Bool := (kind == 1) || ((kind == 2) || ((kind == 3) || (kind == 4)))
def fitB (ba : List Bay) (kind bay : Int) : Bool := bif kind == 4 then bay == -1 else isBy ba bay kind
def cbE (ba : List Bay) (t : List Int) (r : Rly) : Int := bif kOk r.kind then (bif fitB ba r.kind r.bay then (bif hasI t r.bay then 12 else 0) else 9) else 10
def cbS (ba : List Bay) (t : List Int) (r : Rly) : List Int := bif kOk r.kind && fitB ba r.kind r.bay then putI t r.bay else t
theorem cb_fit {ba : List Bay} {t : List Int} {r : Rly} (hk : kOk r.kind = true) (hf : fitB ba r.kind r.bay = true) : cbE ba t r = (bif hasI t r.bay then 12 else 0) ∧ cbS ba t r = putI t r.bay := by
  unfold cbE cbS; rw [hk, hf]; exact ⟨rfl, rfl⟩
theorem cb_nofit {ba : List Bay} {t : List Int} {r : Rly} (hk : kOk r.kind = true) (hf : fitB ba r.kind r.bay = false) : cbE ba t r = 9 ∧ cbS ba t r = t := by
  unfold cbE cbS; rw [hk, hf]; exact ⟨rfl, rfl⟩
theorem cb_nok {ba : List Bay} {t : List Int} {r : Rly} (hk : kOk r.kind = false) : cbE ba t r = 10 ∧ cbS ba t r = t := by
  unfold cbE cbS; rw [hk]; exact ⟨rfl, rfl⟩
theorem p7isBy_call (ba : List Bay) (l : List ByteArray) (t : List Int) (i k : Int) (hpre : ba.length ≤ maxLen ∧ I64 i ∧ I64 k) : CallJ Tryz.prog 146 [.agg (d_chk ba.length (baysD ba) 0 1), .v (.int .i64 i), .v (.int .i64 k)] ([d_nm l, d_tk t]) (.v (.bool (isBy ba i k))) ([d_nm l, d_tk t]) := by
  refine callJ_of_vck (k := 2) (call := (addPure 155 ent_p7btw noCalls)) (lp := fun _ => none) (N := 10) T_ok mixed (addPure_ok ent_p7btw_ok noCalls_ok) Tryz.func146 rfl (by decide) (by kernel_rfl) (by kernel_rfl) rfl (LpAllK.none _) ?_
  refine of_eq (B := letI z6 := (1000000007 : Nat); letI z10 := (D.v (Value.map (Option.none))); letI z4 := (D.v (Value.bool Bool.false)); letI z3 := (D.v (Value.int IntKind.i64 (1 : Int))); letI z0 := (Option.some (Blk.mk z6 (List.cons z10 (List.cons z4 (List.cons z4 (List.cons z3 (List.cons z3 (List.cons (D.v (Value.string (ByteArray.mk (Array.mk ([] : List UInt8))))) (nmC l))))))) Bool.true)); letI z1 := (Option.some (Blk.mk z6 (List.cons z10 (List.cons z4 (List.cons z4 (List.cons z3 (List.cons z3 (List.cons (D.v (Value.int IntKind.i64 (0 : Int))) (tkC t))))))) Bool.true)); letI z2 := (Option.some (Blk.mk (113 : Nat) [(D.ro (List.length ba) (baysD ba)), (D.ifc z6 (D.ptr (0 : Nat) (0 : Nat))), (D.ifc z6 (D.ptr (1 : Nat) (0 : Nat)))] Bool.true)); letI z7 := (((Int.toNat i) * (12 : Nat)) + (1 : Nat)); letI z5 := (List.getD (baysD ba) z7 (Inhabited.default)); letI z8 := (((List.length ba) : Nat) : Int); letI z9 := (D.v (Value.bool (isBy ba i k))); letI z11 := ((0 : Nat) < (3 : Nat)); (True ∧ (True ∧ (True ∧ (True ∧ (z11 ∧ (True ∧ (True ∧ (True ∧ (True ∧ (pcond (btw i (0 : Int) (IntKind.wrap IntKind.i64 (z8 - (1 : Int)))) (True ∧ (z11 ∧ (True ∧ ((((0 : Int) ≤ i) ∧ (i < z8)) ∧ (True ∧ (((z7 < (List.length (baysD ba))) ∧ (IsInt IntKind.i64 z5)) ∧ (True ∧ (True ∧ (True ∧ (True ∧ (True ∧ (∃ (kp : (List KE)), (viewFin (2 : Nat) kp [z0, z1, z2] (D.v (Value.bool ((cellInt z5) == k))) z9 [(d_nm l), (d_tk t)]))))))))))))) (True ∧ (True ∧ (True ∧ (∃ (kp : (List KE)), (viewFin (2 : Nat) kp [z0, z1, z2] z4 z9 [(d_nm l), (d_tk t)])))))))))))))))) (by kernel_rfl) ?_
  obtain ⟨hb, hi, hk⟩ := hpre
  simp only [true_and, and_true, and_self, IsInt_lit, IsBool_lit, IsStr_lit, IsSl_lit, cellN_lit, cellL_lit, Bool.not_eq_true', Bool.not_eq_false', Bool.not_true, Bool.not_false, Int.reduceLE, Int.reduceLT, Int.reduceNeg, Nat.le_refl, Int.le_refl, Nat.reduceLT, Nat.reduceLeDiff, Nat.reduceEqDiff, D.v.injEq, D.tup.injEq, D.agg.injEq, D.ro.injEq, List.cons.injEq, Value.int.injEq, Value.bool.injEq, pcond_true, pcond_false, NamelessL, Nameless, Nat.reduceMul, Nat.reduceAdd, Nat.zero_add, Int.toNat_natCast]
  have w1 : IntKind.i64.wrap ((ba.length : Int) - 1) = (ba.length : Int) - 1 := wrap_i64_of (by simp only [maxLen] at hb; omega) (by simp only [maxLen] at hb; omega)
  rw [w1]
  refine pcond_intro (fun h => ?_) (fun h => ?_)
  · have hr : 0 ≤ i ∧ i < ba.length := by unfold btw at h; simp only [Bool.and_eq_true, decide_eq_true_eq] at h; omega
    have hxa : i.toNat < ba.length := by omega
    have ga := baysD_get ba i.toNat hxa
    have e : isBy ba i k = ((ba.getD i.toNat default).kind == k) := by unfold isBy; rw [h]; rfl
    simp only [ga, cellInt_lit, IsInt_lit, and_true]
    rw [e]
    exact ⟨hr, by rw [baysD_length]; omega, [.old 0, .old 1], rfl, ⟨⟨rfl, nmM_nl l⟩, ⟨rfl, tkM_nl t⟩, rfl⟩, ⟨trivial, rfl⟩⟩
  · have e : isBy ba i k = false := by unfold isBy; rw [h]; rfl
    rw [e]
    exact ⟨[.old 0, .old 1], rfl, ⟨⟨rfl, nmM_nl l⟩, ⟨rfl, tkM_nl t⟩, rfl⟩, ⟨trivial, rfl⟩⟩
def entf_gIsBy : Nat → List D → List ByteArray → List Int → List D → Option (D × List ByteArray × List Int × Prop) := fun n xb l t plain => match plain with
  | [.v (.int .i64 i), .v (.int .i64 k)] => some (.v (.bool (isBy (unBay xb) i k)), l, t, BayOk n xb ∧ I64 i ∧ I64 k)
  | _ => none
def entf_p7isBy : EntF := entf_two entf_gIsBy
theorem entf_p7isBy_ok : EntFOk Tryz.prog 146 entf_p7isBy := entf_two_ok (by
  intro n xb l t plain d l' k' p h hp
  unfold entf_gIsBy at h; split at h
  · rename_i i k
    simp only [Option.some.injEq, Prod.mk.injEq] at h
    obtain ⟨rfl, rfl, rfl, rfl⟩ := h
    obtain ⟨⟨⟨h1, h2⟩, h3⟩, hi, hk⟩ := hp
    generalize unBay xb = a at *
    subst h1; subst h2
    exact ⟨p7isBy_call a l t i k ⟨h3, hi, hk⟩, baysD_nl a, ⟨trivial, trivial, trivial⟩, trivial⟩
  · cases h)
theorem p7chkN_call (ba : List Bay) (l : List ByteArray) (t : List Int) (r : Rly) (hpre : okRly r) : CallJ Tryz.prog 93 [.agg (d_chk ba.length (baysD ba) 0 1), .agg (d_rly r)] ([d_nm l, d_tk t]) (.v (.int .i64 (cnE l r))) ([d_nm (cnS l r), d_tk t]) := by
  refine callJ_of_vck (k := 2) (call := (addPure 67 ent_name (addF 145 (entf_enterS) noCalls))) (lp := fun _ => none) (N := 10) T_ok mixed (addPure_ok ent_name_ok (addF_ok (entf_enterS_ok) noCalls_ok)) Tryz.func93 rfl (by decide) (by kernel_rfl) (by kernel_rfl) rfl (LpAllK.none _) ?_
  refine of_eq (B := letI Z14 := (D.v (Value.string (Rly.n r))); letI Z0 := (Option.some (Blk.mk (55 : Nat) [Z14, (D.v (Value.int IntKind.i64 (Rly.kind r))), (D.v (Value.int IntKind.i64 (Rly.bay r))), (D.v (Value.bool (Rch.on (Rly.z0 r)))), (D.v (Value.bool (Rch.fw (Rly.z0 r)))), (D.v (Value.int IntKind.i64 (Rch.x (Rly.z0 r)))), (D.v (Value.int IntKind.i64 (Rch.r (Rly.z0 r)))), (D.v (Value.int IntKind.i64 (Rch.l (Rly.z0 r)))), (D.v (Value.int IntKind.i64 (Rch.d (Rly.z0 r)))), (D.v (Value.bool (Rch.on (Rly.z1 r)))), (D.v (Value.bool (Rch.fw (Rly.z1 r)))), (D.v (Value.int IntKind.i64 (Rch.x (Rly.z1 r)))), (D.v (Value.int IntKind.i64 (Rch.r (Rly.z1 r)))), (D.v (Value.int IntKind.i64 (Rch.l (Rly.z1 r)))), (D.v (Value.int IntKind.i64 (Rch.d (Rly.z1 r)))), (D.v (Value.bool (Rch.on (Rly.z2 r)))), (D.v (Value.bool (Rch.fw (Rly.z2 r)))), (D.v (Value.int IntKind.i64 (Rch.x (Rly.z2 r)))), (D.v (Value.int IntKind.i64 (Rch.r (Rly.z2 r)))), (D.v (Value.int IntKind.i64 (Rch.l (Rly.z2 r)))), (D.v (Value.int IntKind.i64 (Rch.d (Rly.z2 r)))), (D.v (Value.int IntKind.i64 (Rly.mn r))), (D.v (Value.int IntKind.i64 (Rly.kre r))), (D.v (Value.int IntKind.i64 (Rly.kim r))), (D.v (Value.int IntKind.i64 (Rly.sch r))), (D.v (Value.int IntKind.i64 (Rly.wt r))), (D.v (Value.int IntKind.i64 (Rly.gd r))), (D.v (Value.bool (Elm.on (Rly.df r)))), (D.v (Value.int IntKind.i64 (Elm.p (Rly.df r)))), (D.v (Value.int IntKind.i64 (Elm.d (Rly.df r)))), (D.v (Value.bool (Elm.on (Rly.iv r)))), (D.v (Value.int IntKind.i64 (Elm.p (Rly.iv r)))), (D.v (Value.int IntKind.i64 (Elm.d (Rly.iv r)))), (D.v (Value.bool (Elm.on (Rly.fl r)))), (D.v (Value.int IntKind.i64 (Elm.p (Rly.fl r)))), (D.v (Value.int IntKind.i64 (Elm.d (Rly.fl r)))), (D.v (Value.int IntKind.i64 (Rly.sh r))), (D.v (Value.int IntKind.i64 (Rly.dd r))), (D.v (Value.int IntKind.i64 (Rly.rc r))), (D.v (Value.bool (Elm.on (Rly.un r)))), (D.v (Value.int IntKind.i64 (Elm.p (Rly.un r)))), (D.v (Value.int IntKind.i64 (Elm.d (Rly.un r)))), (D.v (Value.bool (Elm.on (Rly.ov r)))), (D.v (Value.int IntKind.i64 (Elm.p (Rly.ov r)))), (D.v (Value.int IntKind.i64 (Elm.d (Rly.ov r)))), (D.v (Value.int IntKind.i64 (Rly.dm r))), (D.v (Value.int IntKind.i64 (Rly.nu r))), (D.v (Value.int IntKind.i64 (Rly.de r))), (D.v (Value.int IntKind.i64 (Rly.hm r))), (D.ro (List.length (Rly.ru r)) (rulesD (Rly.ru r))), (D.ro (List.length (Rly.se r)) (setsD (Rly.se r))), (D.ro (List.length (Rly.pu r)) (pubsD (Rly.pu r))), (D.ro (List.length (Rly.su r)) (subsD (Rly.su r)))] Bool.true)); letI Z11 := (D.v (Value.map (Option.none))); letI Z6 := (D.v (Value.bool Bool.false)); letI Z5 := (D.v (Value.int IntKind.i64 (1 : Int))); letI Z10 := (D.v (Value.string (ByteArray.mk (Array.mk ([] : List UInt8))))); letI Z1 := (List.cons Z11 (List.cons Z6 (List.cons Z6 (List.cons Z5 (List.cons Z5 (List.cons Z10 (nmC l))))))); letI Z7 := (1000000007 : Nat); letI Z12 := (D.v (Value.int IntKind.i64 (0 : Int))); letI Z2 := (Option.some (Blk.mk Z7 (List.cons Z11 (List.cons Z6 (List.cons Z6 (List.cons Z5 (List.cons Z5 (List.cons Z12 (tkC t))))))) Bool.true)); letI Z13 := (unNm (List.drop (6 : Nat) Z1)); letI Z3 := (Option.some (Blk.mk Z7 (List.cons Z11 (List.cons Z6 (List.cons Z6 (List.cons Z5 (List.cons Z5 (List.cons Z10 (nmC (putN Z13 (Rly.n r))))))))) Bool.true)); letI Z4 := (Option.some (Blk.mk (113 : Nat) [(D.ro (List.length ba) (baysD ba)), (D.ifc Z7 (D.ptr (0 : Nat) (0 : Nat))), (D.ifc Z7 (D.ptr (1 : Nat) (0 : Nat)))] Bool.true)); letI Z8 := (D.v (Value.int IntKind.i64 (cnE l r))); letI Z9 := (((0 : Nat) < (53 : Nat)) ∧ (IsStr Z14)); letI Z15 := (d_nm (cnS l r)); (True ∧ (True ∧ (True ∧ (True ∧ (Z9 ∧ (((ByteArray.size (Rly.n r)) ≤ (9223372036854775807 : Nat)) ∧ (True ∧ (True ∧ (pcond (!(nameS (Rly.n r))) (True ∧ (True ∧ (∃ (kp : (List KE)), (viewFin (2 : Nat) kp [(Option.some (Blk.mk Z7 Z1 Bool.true)), Z2, Z4, Z0] (D.v (Value.int IntKind.i64 (7 : Int))) Z8 [Z15, (d_tk t)])))) (True ∧ (((1 : Nat) < (3 : Nat)) ∧ (True ∧ (Z9 ∧ (((((ltAll (4 : Nat) [(0 : Nat)]) && Bool.true) = Bool.true) ∧ (((Z7 = Z7) ∧ (Z7 = Z7)) ∧ (NmOk Z1))) ∧ (True ∧ (True ∧ (pcond (!(!(hasN Z13 (Rly.n r)))) (True ∧ (True ∧ (∃ (kp : (List KE)), (viewFin (2 : Nat) kp [Z3, Z2, Z4, Z0] (D.v (Value.int IntKind.i64 (8 : Int))) Z8 [Z15, (d_tk t)])))) (True ∧ (True ∧ (∃ (kp : (List KE)), (viewFin (2 : Nat) kp [Z3, Z2, Z4, Z0] Z12 Z8 [Z15, (d_tk t)])))))))))))))))))))))) (by kernel_rfl) ?_
  simp only [true_and, and_true, and_self, IsInt_lit, IsBool_lit, IsStr_lit, IsSl_lit, cellN_lit, cellL_lit, Bool.not_eq_true', Bool.not_eq_false', Bool.not_true, Bool.not_false, Int.reduceLE, Int.reduceLT, Int.reduceNeg, Nat.le_refl, Int.le_refl, Nat.reduceLT, Nat.reduceLeDiff, Nat.reduceEqDiff, D.v.injEq, D.tup.injEq, D.agg.injEq, D.ro.injEq, List.cons.injEq, Value.int.injEq, Value.bool.injEq, pcond_true, pcond_false, NamelessL, Nameless, Nat.reduceMul, Nat.reduceAdd, Nat.zero_add, Int.toNat_natCast, NmOk_lit, TkOk_lit, List.drop_succ_cons, List.drop_zero, unNm_C, unTk_C]
  unfold cnE cnS
  refine ⟨hpre.n, pcond_intro (fun h => ?_) (fun h => ⟨rfl, pcond_intro (fun h1 => ?_) (fun h1 => ?_)⟩)⟩
  · rw [Bool.not_eq_true'] at h; rw [h]
    exact ⟨[.old 0, .old 1], rfl, ⟨⟨rfl, nmM_nl l⟩, ⟨rfl, tkM_nl t⟩, rfl⟩, ⟨trivial, rfl⟩⟩
  · rw [Bool.not_eq_false'] at h; rw [Bool.not_not] at h1; rw [h, h1]
    exact ⟨[.old 0, .old 1], rfl, ⟨⟨rfl, nmM_nl _⟩, ⟨rfl, tkM_nl t⟩, rfl⟩, ⟨trivial, rfl⟩⟩
  · rw [Bool.not_eq_false'] at h; rw [Bool.not_not] at h1; rw [h, h1]
    exact ⟨[.old 0, .old 1], rfl, ⟨⟨rfl, nmM_nl _⟩, ⟨rfl, tkM_nl t⟩, rfl⟩, ⟨trivial, rfl⟩⟩
theorem p7chkB_call (ba : List Bay) (l : List ByteArray) (t : List Int) (r : Rly) (hpre : ba.length ≤ maxLen ∧ okRly r) : CallJ Tryz.prog 94 [.agg (d_chk ba.length (baysD ba) 0 1), .agg (d_rly r)] ([d_nm l, d_tk t]) (.v (.int .i64 (cbE ba t r))) ([d_nm l, d_tk (cbS ba t r)]) := by
  refine callJ_of_vck (k := 2) (call := (addF 146 (entf_p7isBy) (addF 147 (entf_enterI) noCalls))) (lp := fun _ => none) (N := 10) T_ok mixed (addF_ok (entf_p7isBy_ok) (addF_ok (entf_enterI_ok) noCalls_ok)) Tryz.func94 rfl (by decide) (by kernel_rfl) (by kernel_rfl) rfl (LpAllK.none _) ?_
  refine of_eq (B := letI Z32 := (D.v (Value.int IntKind.i64 (Rly.kind r))); letI Z33 := (D.v (Value.int IntKind.i64 (Rly.bay r))); letI Z0 := (Option.some (Blk.mk (55 : Nat) [(D.v (Value.string (Rly.n r))), Z32, Z33, (D.v (Value.bool (Rch.on (Rly.z0 r)))), (D.v (Value.bool (Rch.fw (Rly.z0 r)))), (D.v (Value.int IntKind.i64 (Rch.x (Rly.z0 r)))), (D.v (Value.int IntKind.i64 (Rch.r (Rly.z0 r)))), (D.v (Value.int IntKind.i64 (Rch.l (Rly.z0 r)))), (D.v (Value.int IntKind.i64 (Rch.d (Rly.z0 r)))), (D.v (Value.bool (Rch.on (Rly.z1 r)))), (D.v (Value.bool (Rch.fw (Rly.z1 r)))), (D.v (Value.int IntKind.i64 (Rch.x (Rly.z1 r)))), (D.v (Value.int IntKind.i64 (Rch.r (Rly.z1 r)))), (D.v (Value.int IntKind.i64 (Rch.l (Rly.z1 r)))), (D.v (Value.int IntKind.i64 (Rch.d (Rly.z1 r)))), (D.v (Value.bool (Rch.on (Rly.z2 r)))), (D.v (Value.bool (Rch.fw (Rly.z2 r)))), (D.v (Value.int IntKind.i64 (Rch.x (Rly.z2 r)))), (D.v (Value.int IntKind.i64 (Rch.r (Rly.z2 r)))), (D.v (Value.int IntKind.i64 (Rch.l (Rly.z2 r)))), (D.v (Value.int IntKind.i64 (Rch.d (Rly.z2 r)))), (D.v (Value.int IntKind.i64 (Rly.mn r))), (D.v (Value.int IntKind.i64 (Rly.kre r))), (D.v (Value.int IntKind.i64 (Rly.kim r))), (D.v (Value.int IntKind.i64 (Rly.sch r))), (D.v (Value.int IntKind.i64 (Rly.wt r))), (D.v (Value.int IntKind.i64 (Rly.gd r))), (D.v (Value.bool (Elm.on (Rly.df r)))), (D.v (Value.int IntKind.i64 (Elm.p (Rly.df r)))), (D.v (Value.int IntKind.i64 (Elm.d (Rly.df r)))), (D.v (Value.bool (Elm.on (Rly.iv r)))), (D.v (Value.int IntKind.i64 (Elm.p (Rly.iv r)))), (D.v (Value.int IntKind.i64 (Elm.d (Rly.iv r)))), (D.v (Value.bool (Elm.on (Rly.fl r)))), (D.v (Value.int IntKind.i64 (Elm.p (Rly.fl r)))), (D.v (Value.int IntKind.i64 (Elm.d (Rly.fl r)))), (D.v (Value.int IntKind.i64 (Rly.sh r))), (D.v (Value.int IntKind.i64 (Rly.dd r))), (D.v (Value.int IntKind.i64 (Rly.rc r))), (D.v (Value.bool (Elm.on (Rly.un r)))), (D.v (Value.int IntKind.i64 (Elm.p (Rly.un r)))), (D.v (Value.int IntKind.i64 (Elm.d (Rly.un r)))), (D.v (Value.bool (Elm.on (Rly.ov r)))), (D.v (Value.int IntKind.i64 (Elm.p (Rly.ov r)))), (D.v (Value.int IntKind.i64 (Elm.d (Rly.ov r)))), (D.v (Value.int IntKind.i64 (Rly.dm r))), (D.v (Value.int IntKind.i64 (Rly.nu r))), (D.v (Value.int IntKind.i64 (Rly.de r))), (D.v (Value.int IntKind.i64 (Rly.hm r))), (D.ro (List.length (Rly.ru r)) (rulesD (Rly.ru r))), (D.ro (List.length (Rly.se r)) (setsD (Rly.se r))), (D.ro (List.length (Rly.pu r)) (pubsD (Rly.pu r))), (D.ro (List.length (Rly.su r)) (subsD (Rly.su r)))] Bool.true)); letI Z17 := (D.v (Value.map (Option.none))); letI Z11 := (D.v (Value.bool Bool.false)); letI Z10 := (D.v (Value.int IntKind.i64 (1 : Int))); letI Z12 := (D.v (Value.int IntKind.i64 (0 : Int))); letI Z3 := (List.cons Z17 (List.cons Z11 (List.cons Z11 (List.cons Z10 (List.cons Z10 (List.cons Z12 (tkC t))))))); letI Z28 := (unTk (List.drop (6 : Nat) Z3)); letI Z1 := (List.cons Z17 (List.cons Z11 (List.cons Z11 (List.cons Z10 (List.cons Z10 (List.cons Z12 (tkC Z28))))))); letI Z7 := (1000000007 : Nat); letI Z26 := (D.v (Value.string (ByteArray.mk (Array.mk ([] : List UInt8))))); letI Z5 := (List.cons Z17 (List.cons Z11 (List.cons Z11 (List.cons Z10 (List.cons Z10 (List.cons Z26 (nmC l))))))); letI Z2 := (Option.some (Blk.mk Z7 (List.cons Z17 (List.cons Z11 (List.cons Z11 (List.cons Z10 (List.cons Z10 (List.cons Z26 (nmC (unNm (List.drop (6 : Nat) Z5))))))))) Bool.true)); letI Z4 := (Option.some (Blk.mk (113 : Nat) [(D.ro (List.length ba) (baysD ba)), (D.ifc Z7 (D.ptr (0 : Nat) (0 : Nat))), (D.ifc Z7 (D.ptr (1 : Nat) (0 : Nat)))] Bool.true)); letI Z37 := (unTk (List.drop (6 : Nat) Z1)); letI Z6 := (Option.some (Blk.mk Z7 (List.cons Z17 (List.cons Z11 (List.cons Z11 (List.cons Z10 (List.cons Z10 (List.cons Z12 (tkC (putI Z37 (Rly.bay r))))))))) Bool.true)); letI Z8 := (((2 : Nat) < (53 : Nat)) ∧ (IsInt IntKind.i64 Z33)); letI Z9 := (D.v (Value.int IntKind.i64 (cbE ba t r))); letI Z13 := (Option.some (Blk.mk Z7 (List.cons Z17 (List.cons Z11 (List.cons Z11 (List.cons Z10 (List.cons Z10 (List.cons Z12 (tkC (putI Z28 (Rly.bay r))))))))) Bool.true)); letI Z29 := (((ltAll (4 : Nat) [(1 : Nat)]) && Bool.true) = Bool.true); letI Z24 := ((Z7 = Z7) ∧ (Z7 = Z7)); letI Z14 := (Z29 ∧ (Z24 ∧ (TkOk Z1))); letI Z15 := (d_tk (cbS ba t r)); letI Z16 := (Z24 ∧ (Z24 ∧ (Bool.false = Bool.false))); letI Z18 := (((ltAll (4 : Nat) [(0 : Nat), (1 : Nat)]) && Bool.true) = Bool.true); letI Z19 := (D.v (Value.int IntKind.i64 (12 : Int))); letI Z20 := (D.v (Value.int IntKind.i64 (9 : Int))); letI Z21 := (!(!(hasI Z37 (Rly.bay r)))); letI Z22 := (Option.some (Blk.mk Z7 Z5 Bool.true)); letI Z23 := (Option.some (Blk.mk Z7 Z1 Bool.true)); letI Z25 := (BayOk (List.length ba) (baysD ba)); letI Z27 := ((2 : Nat) < (3 : Nat)); letI Z30 := ((3 : Nat) ≤ (3 : Nat)); letI Z31 := ((NmOk Z5) ∧ (TkOk Z3)); letI Z34 := (Option.some (Blk.mk Z7 Z3 Bool.true)); letI Z35 := (unBay (baysD ba)); letI Z36 := (I64 (Rly.bay r)); (True ∧ (True ∧ (True ∧ (True ∧ (True ∧ ((((1 : Nat) < (53 : Nat)) ∧ (IsInt IntKind.i64 Z32)) ∧ (True ∧ (True ∧ (pcond ((Rly.kind r) == (1 : Int)) (Z30 ∧ (True ∧ (Z8 ∧ ((Z18 ∧ (Z16 ∧ (Z31 ∧ (Z25 ∧ (Z36 ∧ (I64 (1 : Int))))))) ∧ (True ∧ (True ∧ (True ∧ (True ∧ (pcond (!(isBy Z35 (Rly.bay r) (1 : Int))) (True ∧ (True ∧ (∃ (kp : (List KE)), (viewFin (2 : Nat) kp [Z2, Z23, Z4, Z0] Z20 Z9 [(d_nm l), Z15])))) (True ∧ (Z27 ∧ (True ∧ (Z8 ∧ (Z14 ∧ (True ∧ (True ∧ (pcond Z21 (True ∧ (True ∧ (∃ (kp : (List KE)), (viewFin (2 : Nat) kp [Z2, Z6, Z4, Z0] Z19 Z9 [(d_nm l), Z15])))) (True ∧ (True ∧ (∃ (kp : (List KE)), (viewFin (2 : Nat) kp [Z2, Z6, Z4, Z0] Z12 Z9 [(d_nm l), Z15]))))))))))))))))))))) (True ∧ (True ∧ (pcond ((Rly.kind r) == (2 : Int)) (Z30 ∧ (True ∧ (Z8 ∧ ((Z18 ∧ (Z16 ∧ (Z31 ∧ (Z25 ∧ (Z36 ∧ (I64 (2 : Int))))))) ∧ (True ∧ (True ∧ (True ∧ (True ∧ (pcond (!(isBy Z35 (Rly.bay r) (2 : Int))) (True ∧ (True ∧ (∃ (kp : (List KE)), (viewFin (2 : Nat) kp [Z2, Z23, Z4, Z0] Z20 Z9 [(d_nm l), Z15])))) (True ∧ (Z27 ∧ (True ∧ (Z8 ∧ (Z14 ∧ (True ∧ (True ∧ (pcond Z21 (True ∧ (True ∧ (∃ (kp : (List KE)), (viewFin (2 : Nat) kp [Z2, Z6, Z4, Z0] Z19 Z9 [(d_nm l), Z15])))) (True ∧ (True ∧ (∃ (kp : (List KE)), (viewFin (2 : Nat) kp [Z2, Z6, Z4, Z0] Z12 Z9 [(d_nm l), Z15]))))))))))))))))))))) (True ∧ (True ∧ (pcond ((Rly.kind r) == (3 : Int)) (Z30 ∧ (True ∧ (Z8 ∧ ((Z18 ∧ (Z16 ∧ (Z31 ∧ (Z25 ∧ (Z36 ∧ (I64 (3 : Int))))))) ∧ (True ∧ (True ∧ (True ∧ (True ∧ (pcond (!(isBy Z35 (Rly.bay r) (3 : Int))) (True ∧ (True ∧ (∃ (kp : (List KE)), (viewFin (2 : Nat) kp [Z2, Z23, Z4, Z0] Z20 Z9 [(d_nm l), Z15])))) (True ∧ (Z27 ∧ (True ∧ (Z8 ∧ (Z14 ∧ (True ∧ (True ∧ (pcond Z21 (True ∧ (True ∧ (∃ (kp : (List KE)), (viewFin (2 : Nat) kp [Z2, Z6, Z4, Z0] Z19 Z9 [(d_nm l), Z15])))) (True ∧ (True ∧ (∃ (kp : (List KE)), (viewFin (2 : Nat) kp [Z2, Z6, Z4, Z0] Z12 Z9 [(d_nm l), Z15]))))))))))))))))))))) (True ∧ (True ∧ (pcond ((Rly.kind r) == (4 : Int)) (True ∧ (Z8 ∧ (True ∧ (True ∧ (True ∧ (True ∧ (True ∧ (pcond (!((Rly.bay r) == (-(1 : Int)))) (True ∧ (True ∧ (∃ (kp : (List KE)), (viewFin (2 : Nat) kp [Z22, Z34, Z4, Z0] Z20 Z9 [(d_nm l), Z15])))) (True ∧ (Z27 ∧ (True ∧ (Z8 ∧ ((Z29 ∧ (Z24 ∧ (TkOk Z3))) ∧ (True ∧ (True ∧ (pcond (!(!(hasI Z28 (Rly.bay r)))) (True ∧ (True ∧ (∃ (kp : (List KE)), (viewFin (2 : Nat) kp [Z22, Z13, Z4, Z0] Z19 Z9 [(d_nm l), Z15])))) (True ∧ (True ∧ (∃ (kp : (List KE)), (viewFin (2 : Nat) kp [Z22, Z13, Z4, Z0] Z12 Z9 [(d_nm l), Z15])))))))))))))))))))) (True ∧ (True ∧ (∃ (kp : (List KE)), (viewFin (2 : Nat) kp [Z22, Z34, Z4, Z0] (D.v (Value.int IntKind.i64 (10 : Int))) Z9 [(d_nm l), Z15]))))))))))))))))))))))) (by kernel_rfl) ?_
  simp only [true_and, and_true, and_self, IsInt_lit, IsBool_lit, IsStr_lit, IsSl_lit, cellN_lit, cellL_lit, Bool.not_eq_true', Bool.not_eq_false', Bool.not_true, Bool.not_false, Int.reduceLE, Int.reduceLT, Int.reduceNeg, Nat.le_refl, Int.le_refl, Nat.reduceLT, Nat.reduceLeDiff, Nat.reduceEqDiff, D.v.injEq, D.tup.injEq, D.agg.injEq, D.ro.injEq, List.cons.injEq, Value.int.injEq, Value.bool.injEq, pcond_true, pcond_false, NamelessL, Nameless, Nat.reduceMul, Nat.reduceAdd, Nat.zero_add, Int.toNat_natCast, NmOk_lit, TkOk_lit, List.drop_succ_cons, List.drop_zero, unNm_C, unTk_C]
  simp only [BayOk_lit, unBay_D]
  refine pcond_intro (fun k1 => ?_) (fun k1 => pcond_intro (fun k2 => ?_) (fun k2 => pcond_intro (fun k3 => ?_) (fun k3 => pcond_intro (fun k4 => ?_) (fun k4 => ?_))))
  · have e := beq_iff_eq.1 k1
    have hk : kOk r.kind = true := by rw [e]; rfl
    have hf : fitB ba r.kind r.bay = isBy ba r.bay 1 := by rw [e]; rfl
    refine ⟨⟨rfl, hpre.1, hpre.2.kb.2, ⟨by decide, by decide⟩⟩, pcond_intro (fun h => ?_) (fun h => ⟨rfl, pcond_intro (fun g => ?_) (fun g => ?_)⟩)⟩
    · rw [Bool.not_eq_true'] at h; have q := cb_nofit (t := t) hk (hf.trans h); rw [q.1, q.2]; exact ⟨[.old 0, .old 1], rfl, ⟨⟨rfl, nmM_nl l⟩, ⟨rfl, tkM_nl _⟩, rfl⟩, ⟨trivial, rfl⟩⟩
    · rw [Bool.not_not] at g; rw [Bool.not_eq_false'] at h; have q := cb_fit (t := t) hk (hf.trans h); rw [q.1, q.2, g]; exact ⟨[.old 0, .old 1], rfl, ⟨⟨rfl, nmM_nl l⟩, ⟨rfl, tkM_nl _⟩, rfl⟩, ⟨trivial, rfl⟩⟩
    · rw [Bool.not_not] at g; rw [Bool.not_eq_false'] at h; have q := cb_fit (t := t) hk (hf.trans h); rw [q.1, q.2, g]; exact ⟨[.old 0, .old 1], rfl, ⟨⟨rfl, nmM_nl l⟩, ⟨rfl, tkM_nl _⟩, rfl⟩, ⟨trivial, rfl⟩⟩
  · have e := beq_iff_eq.1 k2
    have hk : kOk r.kind = true := by rw [e]; rfl
    have hf : fitB ba r.kind r.bay = isBy ba r.bay 2 := by rw [e]; rfl
    refine ⟨⟨rfl, hpre.1, hpre.2.kb.2, ⟨by decide, by decide⟩⟩, pcond_intro (fun h => ?_) (fun h => ⟨rfl, pcond_intro (fun g => ?_) (fun g => ?_)⟩)⟩
    · rw [Bool.not_eq_true'] at h; have q := cb_nofit (t := t) hk (hf.trans h); rw [q.1, q.2]; exact ⟨[.old 0, .old 1], rfl, ⟨⟨rfl, nmM_nl l⟩, ⟨rfl, tkM_nl _⟩, rfl⟩, ⟨trivial, rfl⟩⟩
    · rw [Bool.not_not] at g; rw [Bool.not_eq_false'] at h; have q := cb_fit (t := t) hk (hf.trans h); rw [q.1, q.2, g]; exact ⟨[.old 0, .old 1], rfl, ⟨⟨rfl, nmM_nl l⟩, ⟨rfl, tkM_nl _⟩, rfl⟩, ⟨trivial, rfl⟩⟩
    · rw [Bool.not_not] at g; rw [Bool.not_eq_false'] at h; have q := cb_fit (t := t) hk (hf.trans h); rw [q.1, q.2, g]; exact ⟨[.old 0, .old 1], rfl, ⟨⟨rfl, nmM_nl l⟩, ⟨rfl, tkM_nl _⟩, rfl⟩, ⟨trivial, rfl⟩⟩
  · have e := beq_iff_eq.1 k3
    have hk : kOk r.kind = true := by rw [e]; rfl
    have hf : fitB ba r.kind r.bay = isBy ba r.bay 3 := by rw [e]; rfl
    refine ⟨⟨rfl, hpre.1, hpre.2.kb.2, ⟨by decide, by decide⟩⟩, pcond_intro (fun h => ?_) (fun h => ⟨rfl, pcond_intro (fun g => ?_) (fun g => ?_)⟩)⟩
    · rw [Bool.not_eq_true'] at h; have q := cb_nofit (t := t) hk (hf.trans h); rw [q.1, q.2]; exact ⟨[.old 0, .old 1], rfl, ⟨⟨rfl, nmM_nl l⟩, ⟨rfl, tkM_nl _⟩, rfl⟩, ⟨trivial, rfl⟩⟩
    · rw [Bool.not_not] at g; rw [Bool.not_eq_false'] at h; have q := cb_fit (t := t) hk (hf.trans h); rw [q.1, q.2, g]; exact ⟨[.old 0, .old 1], rfl, ⟨⟨rfl, nmM_nl l⟩, ⟨rfl, tkM_nl _⟩, rfl⟩, ⟨trivial, rfl⟩⟩
    · rw [Bool.not_not] at g; rw [Bool.not_eq_false'] at h; have q := cb_fit (t := t) hk (hf.trans h); rw [q.1, q.2, g]; exact ⟨[.old 0, .old 1], rfl, ⟨⟨rfl, nmM_nl l⟩, ⟨rfl, tkM_nl _⟩, rfl⟩, ⟨trivial, rfl⟩⟩
  · have e := beq_iff_eq.1 k4
    have hk : kOk r.kind = true := by rw [e]; rfl
    have hf : fitB ba r.kind r.bay = (r.bay == -1) := by rw [e]; rfl
    refine pcond_intro (fun h => ?_) (fun h => ⟨rfl, pcond_intro (fun g => ?_) (fun g => ?_)⟩)
    · rw [Bool.not_eq_true'] at h; have q := cb_nofit (t := t) hk (hf.trans h); rw [q.1, q.2]; exact ⟨[.old 0, .old 1], rfl, ⟨⟨rfl, nmM_nl l⟩, ⟨rfl, tkM_nl _⟩, rfl⟩, ⟨trivial, rfl⟩⟩
    · rw [Bool.not_not] at g; rw [Bool.not_eq_false'] at h; have q := cb_fit (t := t) hk (hf.trans h); rw [q.1, q.2, g]; exact ⟨[.old 0, .old 1], rfl, ⟨⟨rfl, nmM_nl l⟩, ⟨rfl, tkM_nl _⟩, rfl⟩, ⟨trivial, rfl⟩⟩
    · rw [Bool.not_not] at g; rw [Bool.not_eq_false'] at h; have q := cb_fit (t := t) hk (hf.trans h); rw [q.1, q.2, g]; exact ⟨[.old 0, .old 1], rfl, ⟨⟨rfl, nmM_nl l⟩, ⟨rfl, tkM_nl _⟩, rfl⟩, ⟨trivial, rfl⟩⟩
  · have hk : kOk r.kind = false := by unfold kOk; rw [k1, k2, k3, k4]; rfl
    have q := cb_nok (t := t) (ba := ba) hk; rw [q.1, q.2]; exact ⟨[.old 0, .old 1], rfl, ⟨⟨rfl, nmM_nl l⟩, ⟨rfl, tkM_nl _⟩, rfl⟩, ⟨trivial, rfl⟩⟩
def entf_gChkN : Nat → List D → List ByteArray → List Int → List D → Option (D × List ByteArray × List Int × Prop) := fun n xb l t plain => match plain with
  | [.agg cs] => some (.v (.int .i64 (cnE l (mkR cs))), cnS l (mkR cs), t, BayOk n xb ∧ RlyOk cs)
  | _ => none
def entf_p7chkN : EntF := entf_two entf_gChkN
theorem entf_p7chkN_ok : EntFOk Tryz.prog 93 entf_p7chkN := entf_two_ok (by
  intro n xb l t plain d l' k' p h hp
  unfold entf_gChkN at h; split at h
  · rename_i cs
    simp only [Option.some.injEq, Prod.mk.injEq] at h
    obtain ⟨rfl, rfl, rfl, rfl⟩ := h
    obtain ⟨⟨⟨h1, h2⟩, h3⟩, h4, h5⟩ := hp
    generalize unBay xb = a at *
    subst h1; subst h2
    generalize mkR cs = r at *
    subst h4
    exact ⟨p7chkN_call a l t r h5, baysD_nl a, ⟨d_rly_nl r, trivial⟩, trivial⟩
  · cases h)
def entf_gChkB : Nat → List D → List ByteArray → List Int → List D → Option (D × List ByteArray × List Int × Prop) := fun n xb l t plain => match plain with
  | [.agg cs] => some (.v (.int .i64 (cbE (unBay xb) t (mkR cs))), l, cbS (unBay xb) t (mkR cs), BayOk n xb ∧ RlyOk cs)
  | _ => none
def entf_p7chkB : EntF := entf_two entf_gChkB
theorem entf_p7chkB_ok : EntFOk Tryz.prog 94 entf_p7chkB := entf_two_ok (by
  intro n xb l t plain d l' k' p h hp
  unfold entf_gChkB at h; split at h
  · rename_i cs
    simp only [Option.some.injEq, Prod.mk.injEq] at h
    obtain ⟨rfl, rfl, rfl, rfl⟩ := h
    obtain ⟨⟨⟨h1, h2⟩, h3⟩, h4, h5⟩ := hp
    generalize unBay xb = a at *
    subst h1; subst h2
    generalize mkR cs = r at *
    subst h4
    exact ⟨p7chkB_call a l t r ⟨h3, h5⟩, baysD_nl a, ⟨d_rly_nl r, trivial⟩, trivial⟩
  · cases h)
end Go.Proofs.YtfleadelfklenaaGreatDoor
end
