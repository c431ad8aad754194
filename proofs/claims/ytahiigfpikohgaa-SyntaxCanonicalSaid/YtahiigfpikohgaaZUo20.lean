import Derived.Test.YtahiigfpikohgaaZUo19
section
namespace Go.Proofs.Ytahiigfpikohgaa
open Go.VD
set_option linter.unusedVariables false
set_option linter.unusedSimpArgs false
set_option maxRecDepth 100000
structure LR where
  l : List Itm
  a : Int
  e : Int
  s : ByteArray
  n : Int
  m : Int
structure SR where
  x : Itm
  a : Int
  e : Int
  s : ByteArray
  n : Int
  m : Int
def noI : Itm := .mk 0 [] false []
def d_item (x : Itm) : D := .agg [.v (.int .i64 x.line), .ro x.ws.length (wordsD x.ws), .v (.bool x.bl), .ro x.ks.length (itemsD x.ks)]
def d_sr (r : SR) : D := .tup [d_item r.x, .v (.int .i64 r.a), .v (.int .i64 r.e)]
def d_lr (r : LR) : D := .tup [.ro r.l.length (itemsD r.l), .v (.int .i64 r.a), .v (.int .i64 r.e)]
def d_bl (s : ByteArray) (n m : Int) : Blk := ⟨56, [.v (.string s), .v (.int .i64 n), .v (.int .i64 m)], true⟩
def stmtT (rec : ByteArray → Int → Int → LR) (deep : Bool) (w : Wd) (a : Int) (s : ByteArray) (n m : Int) : SR :=
  bif !headB w.t w.q then ⟨noI, a, 6, s, n, m⟩
  else bif decide (m = 600) then ⟨noI, a, 3, s, n, m⟩
  else bif !decide ((wordsR s n w).2.e = 0) then ⟨noI, (wordsR s n w).2.a, (wordsR s n w).2.e, (wordsR s n w).2.s, (wordsR s n w).2.n, m + 1⟩
  else bif decide ((wordsR s n w).2.k = 59) then ⟨.mk a (wordsR s n w).1 false [], 0, 0, (wordsR s n w).2.s, (wordsR s n w).2.n, m + 1⟩
  else bif !decide ((wordsR s n w).2.k = 123) then ⟨noI, (wordsR s n w).2.a, 6, (wordsR s n w).2.s, (wordsR s n w).2.n, m + 1⟩
  else bif deep then ⟨noI, (wordsR s n w).2.a, 17, (wordsR s n w).2.s, (wordsR s n w).2.n, m + 1⟩
  else bif !decide ((rec (wordsR s n w).2.s (wordsR s n w).2.n (m + 1)).e = 0) then ⟨noI, (rec (wordsR s n w).2.s (wordsR s n w).2.n (m + 1)).a, (rec (wordsR s n w).2.s (wordsR s n w).2.n (m + 1)).e, (rec (wordsR s n w).2.s (wordsR s n w).2.n (m + 1)).s, (rec (wordsR s n w).2.s (wordsR s n w).2.n (m + 1)).n, (rec (wordsR s n w).2.s (wordsR s n w).2.n (m + 1)).m⟩
  else ⟨.mk a (wordsR s n w).1 true (rec (wordsR s n w).2.s (wordsR s n w).2.n (m + 1)).l, 0, 0, (rec (wordsR s n w).2.s (wordsR s n w).2.n (m + 1)).s, (rec (wordsR s n w).2.s (wordsR s n w).2.n (m + 1)).n, (rec (wordsR s n w).2.s (wordsR s n w).2.n (m + 1)).m⟩
def itemsT (stm : Wd → Int → ByteArray → Int → Int → SR) (last : Int) : Nat → ByteArray → Int → Int → List Itm → LR
  | 0, s, n, m, l => ⟨[], 0, 1, s, n, m⟩
  | f + 1, s, n, m, l =>
    bif !decide ((nextT s n).e = 0) then ⟨[], (nextT s n).a, (nextT s n).e, (nextT s n).s, (nextT s n).n, m⟩
    else bif decide ((nextT s n).k = last) then ⟨l, 0, 0, (nextT s n).s, (nextT s n).n, m⟩
    else bif !decide ((nextT s n).k = 34) then ⟨[], (nextT s n).a, 6, (nextT s n).s, (nextT s n).n, m⟩
    else bif !decide ((stm (nextT s n).w (nextT s n).a (nextT s n).s (nextT s n).n m).e = 0) then ⟨[], (stm (nextT s n).w (nextT s n).a (nextT s n).s (nextT s n).n m).a, (stm (nextT s n).w (nextT s n).a (nextT s n).s (nextT s n).n m).e, (stm (nextT s n).w (nextT s n).a (nextT s n).s (nextT s n).n m).s, (stm (nextT s n).w (nextT s n).a (nextT s n).s (nextT s n).n m).n, (stm (nextT s n).w (nextT s n).a (nextT s n).s (nextT s n).n m).m⟩
    else itemsT stm last f (stm (nextT s n).w (nextT s n).a (nextT s n).s (nextT s n).n m).s (stm (nextT s n).w (nextT s n).a (nextT s n).s (nextT s n).n m).n (stm (nextT s n).w (nextT s n).a (nextT s n).s (nextT s n).n m).m (l ++ [(stm (nextT s n).w (nextT s n).a (nextT s n).s (nextT s n).n m).x])
def lastK (k : Nat) : Int := bif decide (k = 4) then 0 else 125
def fuel0 : Nat := 601
theorem fuel0_eq : fuel0 = 601 := rfl
def listK : Nat → ByteArray → Int → Int → LR
  | 0, s, n, m => ⟨[], 0, 1, s, n, m⟩
  | k + 1, s, n, m => itemsT (stmtT (listK k) (decide (k = 0))) (lastK k) fuel0 s n m []
def stmK (k : Nat) (w : Wd) (a : Int) (s : ByteArray) (n m : Int) : SR := stmtT (listK k) (decide (k = 0)) w a s n m
theorem listK_succ (k : Nat) (s : ByteArray) (n m : Int) : listK (k + 1) s n m = itemsT (stmK k) (lastK k) fuel0 s n m [] := rfl
attribute [irreducible] listK stmK fuel0
def entp_list (k : Nat) : EntP := fun off plain blk => match off, plain, blk with
  | 0, [.v (.int .i64 dep)], ⟨ty, [.v (.string s), .v (.int .i64 n), .v (.int .i64 m)], true⟩ => some (d_lr (listK k s n m), d_bl (listK k s n m).s (listK k s n m).n (listK k s n m).m, (ty = 56 ∧ 1 ≤ k ∧ k ≤ 5 ∧ dep = 5 - (k : Int)) ∧ RdOk s n ∧ 0 ≤ m ∧ m ≤ 600)
  | _, _, _ => none
def entp_stm (k : Nat) : EntP := fun off plain blk => match off, plain, blk with
  | 0, [.agg [.v (.int .u8 z), .v (.string t), .v (.bool q), .v (.int .i64 a)], .v (.int .i64 dep)], ⟨ty, [.v (.string s), .v (.int .i64 n), .v (.int .i64 m)], true⟩ => some (d_sr (stmK k ⟨t, q⟩ a s n m), d_bl (stmK k ⟨t, q⟩ a s n m).s (stmK k ⟨t, q⟩ a s n m).n (stmK k ⟨t, q⟩ a s n m).m, (ty = 56 ∧ k ≤ 4 ∧ dep = 4 - (k : Int)) ∧ RdOk s n ∧ 0 ≤ m ∧ m ≤ 600)
  | _, _, _ => none
def ListIH (k : Nat) : Prop := EntPOk Try.prog 26 (entp_list k)
def StmIH (k : Nat) : Prop := EntPOk Try.prog 34 (entp_stm k)
theorem ListIH.ok {k : Nat} (h : ListIH k) : EntPOk Try.prog 26 (entp_list k) := h
theorem entp_listR_ok (k : Nat) (h : ListIH k) : EntPOk Try.prog 26 (entp_list k) := h
theorem entp_stmR_ok (k : Nat) (h : StmIH k) : EntPOk Try.prog 34 (entp_stm k) := h
abbrev entp_listR (k : Nat) : EntP := entp_list k
abbrev entp_stmR (k : Nat) : EntP := entp_stm k
theorem items_nil : itemsD [] = [] := by simp [itemsD]
theorem RdTo.nil' {n : Nat} {xs : List D} (h : xs = []) (hn : n = 0) : RdTo (.v (.slice none 0 0)) (.ro n xs) := by
  subst h; subst hn; exact RdTo.nil
theorem fin_s0 {r : SR} {a e : Int} {s : ByteArray} {n m : Int} {T : Heap} (h : r = ⟨noI, a, e, s, n, m⟩) : ∃ kp d0, viewFin 1 kp (some (d_bl s n m) :: T) (.tup [.agg [.v (.int .i64 0), .v (.slice none 0 0), .v (.bool false), .v (.slice none 0 0)], .v (.int .i64 a), .v (.int .i64 e)]) d0 [some (d_bl r.s r.n r.m)] ∧ RdTo d0 (d_sr r) := by
  subst h
  refine ⟨[.old 0], .tup [.agg [.v (.int .i64 0), .v (.slice none 0 0), .v (.bool false), .v (.slice none 0 0)], .v (.int .i64 a), .v (.int .i64 e)], ?_, ?_⟩
  · unfold d_bl
    refine of_eq (B := letI z2 := (D.v (Value.slice (Option.none) (0 : Nat) (0 : Nat))); letI z0 := (D.tup [(D.agg [(D.v (Value.int IntKind.i64 (0 : Int))), z2, (D.v (Value.bool Bool.false)), z2]), (D.v (Value.int IntKind.i64 a)), (D.v (Value.int IntKind.i64 e))]); letI z7 := (D.v (Value.string s)); letI z3 := (D.v (Value.int IntKind.i64 n)); letI z4 := (D.v (Value.int IntKind.i64 m)); letI z1 := (Option.some (Blk.mk (56 : Nat) [z7, z3, z4] Bool.true)); letI z5 := (True ∧ (True ∧ True)); letI z6 := ([] : List (Option Blk)); ((Bool.true = Bool.true) ∧ ((((z1 = z1) ∧ (NamelessL [z7, z3, z4])) ∧ (z6 = z6)) ∧ (((True ∧ (True ∧ z5)) ∧ z5) ∧ (z0 = z0))))) (by kernel_rfl) ?_
    simp [NamelessL, Nameless]
  · exact RdTo.tup3 (RdTo.agg4 (RdTo.refl _) (RdTo.nil' rfl rfl) (RdTo.refl _) (RdTo.nil' items_nil rfl)) (RdTo.refl _) (RdTo.refl _)
theorem fin_s1 {r : SR} {a : Int} {ws : List Wd} {s : ByteArray} {n m : Int} {T : Heap} (h : r = ⟨.mk a ws false [], 0, 0, s, n, m⟩) : ∃ kp d0, viewFin 1 kp (some (d_bl s n m) :: T) (.tup [.agg [.v (.int .i64 a), .ro ws.length (wordsD ws), .v (.bool false), .v (.slice none 0 0)], .v (.int .i64 0), .v (.int .i64 0)]) d0 [some (d_bl r.s r.n r.m)] ∧ RdTo d0 (d_sr r) := by
  subst h
  refine ⟨[.old 0], .tup [.agg [.v (.int .i64 a), .ro ws.length (wordsD ws), .v (.bool false), .v (.slice none 0 0)], .v (.int .i64 0), .v (.int .i64 0)], ?_, ?_⟩
  · unfold d_bl
    refine of_eq (B := letI z2 := (D.v (Value.int IntKind.i64 (0 : Int))); letI z0 := (D.tup [(D.agg [(D.v (Value.int IntKind.i64 a)), (D.ro (List.length ws) (wordsD ws)), (D.v (Value.bool Bool.false)), (D.v (Value.slice (Option.none) (0 : Nat) (0 : Nat)))]), z2, z2]); letI z7 := (D.v (Value.string s)); letI z3 := (D.v (Value.int IntKind.i64 n)); letI z4 := (D.v (Value.int IntKind.i64 m)); letI z1 := (Option.some (Blk.mk (56 : Nat) [z7, z3, z4] Bool.true)); letI z5 := (True ∧ (True ∧ True)); letI z6 := ([] : List (Option Blk)); ((Bool.true = Bool.true) ∧ ((((z1 = z1) ∧ (NamelessL [z7, z3, z4])) ∧ (z6 = z6)) ∧ (((True ∧ (True ∧ z5)) ∧ z5) ∧ (z0 = z0))))) (by kernel_rfl) ?_
    simp [NamelessL, Nameless]
  · exact RdTo.tup3 (RdTo.agg4 (RdTo.refl _) (RdTo.refl _) (RdTo.refl _) (RdTo.nil' items_nil rfl)) (RdTo.refl _) (RdTo.refl _)
theorem fin_s2 {r : SR} {a : Int} {ws : List Wd} {ks : List Itm} {s : ByteArray} {n m : Int} {T : Heap} (h : r = ⟨.mk a ws true ks, 0, 0, s, n, m⟩) : ∃ kp d0, viewFin 1 kp (some (d_bl s n m) :: T) (.tup [.agg [.v (.int .i64 a), .ro ws.length (wordsD ws), .v (.bool true), .ro ks.length (itemsD ks)], .v (.int .i64 0), .v (.int .i64 0)]) d0 [some (d_bl r.s r.n r.m)] ∧ RdTo d0 (d_sr r) := by
  subst h
  refine ⟨[.old 0], .tup [.agg [.v (.int .i64 a), .ro ws.length (wordsD ws), .v (.bool true), .ro ks.length (itemsD ks)], .v (.int .i64 0), .v (.int .i64 0)], ?_, ?_⟩
  · unfold d_bl
    refine of_eq (B := letI z2 := (D.v (Value.int IntKind.i64 (0 : Int))); letI z0 := (D.tup [(D.agg [(D.v (Value.int IntKind.i64 a)), (D.ro (List.length ws) (wordsD ws)), (D.v (Value.bool Bool.true)), (D.ro (List.length ks) (itemsD ks))]), z2, z2]); letI z7 := (D.v (Value.string s)); letI z3 := (D.v (Value.int IntKind.i64 n)); letI z4 := (D.v (Value.int IntKind.i64 m)); letI z1 := (Option.some (Blk.mk (56 : Nat) [z7, z3, z4] Bool.true)); letI z5 := (True ∧ (True ∧ True)); letI z6 := ([] : List (Option Blk)); ((Bool.true = Bool.true) ∧ ((((z1 = z1) ∧ (NamelessL [z7, z3, z4])) ∧ (z6 = z6)) ∧ (((True ∧ (True ∧ z5)) ∧ z5) ∧ (z0 = z0))))) (by kernel_rfl) ?_
    simp [NamelessL, Nameless]
  · exact RdTo.refl _
theorem wordsT_ok : ∀ (f : Nat) {s : ByteArray} {n : Int} (ws : List Wd), RdOk s n → RdOk (wordsT f s n ws).2.s (wordsT f s n ws).2.n
  | 0, s, n, ws, h => nextT_ok h
  | f + 1, s, n, ws, h => by
    have h1 := nextT_ok h
    simp only [wordsT]
    cases decide ((nextT s n).e = 0)
    · exact h1
    · cases decide ((nextT s n).k = 34)
      · exact h1
      · cases decide (ws.length = 40)
        · exact wordsT_ok f _ h1
        · exact h1
theorem wordsR_ok {s : ByteArray} {n : Int} (w : Wd) (h : RdOk s n) : RdOk (wordsR s n w).2.s (wordsR s n w).2.n := by
  unfold wordsR; exact wordsT_ok 40 _ h
theorem beqI (a b : Int) : (a == b) = decide (a = b) := by rw [Bool.eq_iff_iff, beq_iff_eq, decide_eq_true_eq]
theorem bneI (a b : Int) : (a != b) = !decide (a = b) := by rw [bne, beqI]
theorem stm_call (k : Nat) (w : Wd) (a : Int) (z : Int) (s : ByteArray) (n m : Int) (hpre : ListIH k ∧ k ≤ 4 ∧ RdOk s n ∧ 0 ≤ m ∧ m ≤ 600) : CallJ Try.prog 34 [.ptr 0 0, .agg [.v (.int .u8 z), .v (.string w.t), .v (.bool w.q), .v (.int .i64 a)], .v (.int .i64 (4 - (k : Int)))] ([some (d_bl s n m)]) (d_sr (stmK k w a s n m)) ([some (d_bl (stmK k w a s n m).s (stmK k w a s n m).n (stmK k w a s n m).m)]) := by
  refine callJ_of_vckN (k := 1) (call := (addPure 27 ent_hBegins (addPtr 49 (entp_words) (addPtr 26 (entp_listR k) noCalls)))) (lp := fun _ => none) (N := 10) T_ok mixed (addPure_ok ent_hBegins_ok (addPtr_ok (entp_words_ok) (addPtr_ok (entp_listR_ok k hpre.1) noCalls_ok))) Try.func34 rfl (by decide) (by kernel_rfl) (by kernel_rfl) rfl (LpAllK.none _) ?_
  refine of_eq (B := letI z26 := (wordsR s n (Wd.mk (Wd.t w) (Wd.q w))); letI z0 := (Prod.snd z26); letI z18 := stmK k w a s n m; letI z37 := (Itm.ws (SR.x z18)); letI z38 := (Itm.ks (SR.x z18)); letI z1 := (D.tup [(D.agg [(D.v (Value.int IntKind.i64 (Itm.line (SR.x z18)))), (D.ro (List.length z37) (wordsD z37)), (D.v (Value.bool (Itm.bl (SR.x z18)))), (D.ro (List.length z38) (itemsD z38))]), (D.v (Value.int IntKind.i64 (SR.a z18))), (D.v (Value.int IntKind.i64 (SR.e z18)))]); letI z2 := (D.v (Value.slice (Option.none) (0 : Nat) (0 : Nat))); letI z12 := (D.v (Value.int IntKind.i64 a)); letI z3 := (Option.some (Blk.mk (70 : Nat) [(D.v (Value.int IntKind.u8 z)), (D.v (Value.string (Wd.t w))), (D.v (Value.bool (Wd.q w))), z12] Bool.true)); letI z29 := (D.v (Value.int IntKind.u8 (Tok.k z0))); letI z14 := (D.v (Value.int IntKind.i64 (Tok.a z0))); letI z4 := (Option.some (Blk.mk (70 : Nat) [z29, (D.v (Value.string (Tok.t z0))), (D.v (Value.bool (Tok.q z0))), z14] Bool.true)); letI z20 := (IntKind.wrap IntKind.i64 (m + (1 : Int))); letI z5 := (listK k (Tok.s z0) (Tok.n z0) z20); letI z6 := (Option.some (d_bl (SR.s z18) (SR.n z18) (SR.m z18))); letI z15 := (D.v (Value.int IntKind.i64 (0 : Int))); letI z25 := (D.v (Value.bool Bool.false)); letI z7 := (Option.some (Blk.mk (36 : Nat) [z15, z2, z25, z2] Bool.true)); letI z8 := (Option.some (Blk.mk (56 : Nat) [(D.v (Value.string (Tok.s z0))), (D.v (Value.int IntKind.i64 (Tok.n z0))), (D.v (Value.int IntKind.i64 z20))] Bool.true)); letI z9 := (D.agg [z15, z2, z25, z2]); letI z35 := ((4 : Nat) ≤ (4 : Nat)); letI z10 := (((4 : Nat) = (4 : Nat)) ∧ z35); letI z11 := (D.ro (List.length (Prod.fst z26)) (wordsD (Prod.fst z26))); letI z13 := (z35 ∧ True); letI z16 := (Option.some (Blk.mk (56 : Nat) [(D.v (Value.string (LR.s z5))), (D.v (Value.int IntKind.i64 (LR.n z5))), (D.v (Value.int IntKind.i64 (LR.m z5)))] Bool.true)); letI z36 := ((3 : Nat) < (4 : Nat)); letI z17 := (z36 ∧ (IsInt IntKind.i64 z12)); letI z31 := (D.v (Value.int IntKind.i64 m)); letI z19 := (Option.some (Blk.mk (56 : Nat) [(D.v (Value.string s)), (D.v (Value.int IntKind.i64 n)), z31] Bool.true)); letI z21 := (z36 ∧ (IsInt IntKind.i64 z14)); letI z22 := (((0 : Nat) < (4 : Nat)) ∧ (IsInt IntKind.u8 z29)); letI z23 := Bool.true = Bool.true; letI z24 := (((2 : Nat) < (3 : Nat)) ∧ (IsInt IntKind.i64 z31)); letI z27 := (D.ro (List.length (LR.l z5)) (itemsD (LR.l z5))); letI z28 := (D.v (Value.int IntKind.i64 (6 : Int))); letI z30 := ((k : Nat) : Int); letI z32 := (D.v (Value.bool Bool.true)); letI z33 := ((3 : Nat) ≤ (4 : Nat)); letI z34 := ((56 : Nat) = (56 : Nat)); (True ∧ (True ∧ (True ∧ (True ∧ (True ∧ (z33 ∧ (True ∧ (True ∧ (pcond (!(headB (Wd.t w) (Wd.q w))) (True ∧ (True ∧ (z17 ∧ (z10 ∧ (True ∧ (True ∧ (z23 ∧ (z13 ∧ (∃ (kp : (List KE)), (∃ (d0 : D), ((viewFin (1 : Nat) kp [z19, z3, z7] (D.tup [z9, z12, z28]) d0 [z6]) ∧ (RdTo d0 z1)))))))))))) (True ∧ (True ∧ (True ∧ (z24 ∧ (True ∧ (pcond (m == (600 : Int)) (True ∧ (True ∧ (z17 ∧ (z10 ∧ (True ∧ (True ∧ (z23 ∧ (z13 ∧ (∃ (kp : (List KE)), (∃ (d0 : D), ((viewFin (1 : Nat) kp [z19, z3, z7] (D.tup [z9, z12, (D.v (Value.int IntKind.i64 (3 : Int)))]) d0 [z6]) ∧ (RdTo d0 z1)))))))))))) (True ∧ (True ∧ (True ∧ (z24 ∧ (True ∧ (True ∧ (True ∧ ((((1 : Nat) = (1 : Nat)) ∧ ((3 : Nat) ≤ (3 : Nat))) ∧ (True ∧ (True ∧ (z33 ∧ ((z34 ∧ (RdOk s n)) ∧ (True ∧ (True ∧ (True ∧ (True ∧ (True ∧ (True ∧ (z10 ∧ (True ∧ (True ∧ (True ∧ (True ∧ (pcond ((Tok.e z0) != (0 : Int)) (True ∧ (True ∧ (z21 ∧ (True ∧ (z10 ∧ (True ∧ (True ∧ (z23 ∧ (z13 ∧ (∃ (kp : (List KE)), (∃ (d0 : D), ((viewFin (1 : Nat) kp [z8, z3, z7, z4] (D.tup [z9, z14, (D.v (Value.int IntKind.i64 (Tok.e z0)))]) d0 [z6]) ∧ (RdTo d0 z1))))))))))))) (True ∧ (z22 ∧ (True ∧ (True ∧ (pcond ((Tok.k z0) == (59 : Int)) (True ∧ (z17 ∧ (True ∧ (True ∧ (z10 ∧ (True ∧ (True ∧ (z13 ∧ (∃ (kp : (List KE)), (∃ (d0 : D), ((viewFin (1 : Nat) kp [z8, z3, (Option.some (Blk.mk (36 : Nat) [z12, z11, z25, z2] Bool.true)), z4] (D.tup [(D.agg [z12, z11, z25, z2]), z15, z15]) d0 [z6]) ∧ (RdTo d0 z1)))))))))))) (True ∧ (z22 ∧ (True ∧ (True ∧ (pcond ((Tok.k z0) != (123 : Int)) (True ∧ (True ∧ (z21 ∧ (z10 ∧ (True ∧ (True ∧ (z23 ∧ (z13 ∧ (∃ (kp : (List KE)), (∃ (d0 : D), ((viewFin (1 : Nat) kp [z8, z3, z7, z4] (D.tup [z9, z14, z28]) d0 [z6]) ∧ (RdTo d0 z1)))))))))))) (True ∧ (True ∧ (True ∧ (pcond (((4 : Int) - z30) == (4 : Int)) (True ∧ (True ∧ (z21 ∧ (z10 ∧ (True ∧ (True ∧ (z23 ∧ (z13 ∧ (∃ (kp : (List KE)), (∃ (d0 : D), ((viewFin (1 : Nat) kp [z8, z3, z7, z4] (D.tup [z9, z14, (D.v (Value.int IntKind.i64 (17 : Int)))]) d0 [z6]) ∧ (RdTo d0 z1)))))))))))) (True ∧ (True ∧ (True ∧ (((z34 ∧ (((1 : Nat) ≤ k) ∧ ((k ≤ (5 : Nat)) ∧ ((IntKind.wrap IntKind.i64 (((4 : Int) - z30) + (1 : Int))) = ((5 : Int) - z30))))) ∧ ((RdOk (Tok.s z0) (Tok.n z0)) ∧ (((0 : Int) ≤ z20) ∧ (z20 ≤ (600 : Int))))) ∧ (True ∧ (True ∧ (True ∧ (True ∧ (True ∧ (True ∧ (True ∧ (True ∧ (True ∧ (pcond ((LR.e z5) != (0 : Int)) (True ∧ (True ∧ (True ∧ (z10 ∧ (True ∧ (True ∧ (z13 ∧ (∃ (kp : (List KE)), (∃ (d0 : D), ((viewFin (1 : Nat) kp [z16, z3, z7, z4] (D.tup [z9, (D.v (Value.int IntKind.i64 (LR.a z5))), (D.v (Value.int IntKind.i64 (LR.e z5)))]) d0 [z6]) ∧ (RdTo d0 z1))))))))))) (True ∧ (z17 ∧ (True ∧ (True ∧ (True ∧ (z10 ∧ (True ∧ (True ∧ (z13 ∧ (∃ (kp : (List KE)), (∃ (d0 : D), ((viewFin (1 : Nat) kp [z16, z3, (Option.some (Blk.mk (36 : Nat) [z12, z11, z32, z27] Bool.true)), z4] (D.tup [(D.agg [z12, z11, z32, z27]), z15, z15]) d0 [z6]) ∧ (RdTo d0 z1))))))))))))))))))))))))))))))))))))))))))))))))))))))))))))))))))))))))))))))))) (by kernel_rfl) ?_
  simp only [true_and, and_true, and_self, IsInt_lit, IsBool_lit, IsStr_lit, IsSl_lit, cellN_lit, cellL_lit, Bool.not_eq_true', Bool.not_eq_false', Bool.not_true, Bool.not_false, Int.reduceLE, Int.reduceLT, Int.reduceNeg, Nat.le_refl, Int.le_refl, Nat.reduceLT, Nat.reduceLeDiff, Nat.reduceEqDiff, D.v.injEq, D.tup.injEq, D.agg.injEq, D.ro.injEq, List.cons.injEq, Value.int.injEq, Value.bool.injEq, pcond_true, pcond_false, NamelessL, Nameless, Nat.reduceMul, Nat.reduceAdd, Nat.zero_add, Int.toNat_natCast]
  obtain ⟨ih, hk, hr, hm1, hm2⟩ := hpre
  have hs : stmK k w a s n m = stmtT (listK k) (decide (k = 0)) w a s n m := by unfold stmK; rfl
  unfold stmtT at hs
  have hr2 := wordsR_ok w hr
  rw [show (⟨w.t, w.q⟩ : Wd) = w from rfl]
  have hw1 : IntKind.i64.wrap (m + 1) = m + 1 := wrap_i64_of (by omega) (by omega)
  have hd : decide ((4 : Int) - (k : Int) = 4) = decide (k = 0) := by rw [Bool.eq_iff_iff, decide_eq_true_eq, decide_eq_true_eq]; omega
  have hw2 : IntKind.i64.wrap (4 - (k : Int) + 1) = 5 - (k : Int) := by rw [wrap_i64_of (by omega) (by omega)]; omega
  simp only [bneI, beqI, hd, hw2]
  generalize wordsR s n w = r at *
  generalize stmK k w a s n m = R at *
  refine pcond_intro (fun h1 => fin_s0 (by rw [hs, h1, cond_true])) (fun h1 => ?_)
  rw [h1, cond_false] at hs
  refine pcond_intro (fun h2 => fin_s0 (by rw [hs, h2, cond_true])) (fun h2 => ⟨hr, ?_⟩)
  rw [h2, cond_false] at hs
  have h2' : m ≠ 600 := by simpa using h2
  rw [hw1]
  refine pcond_intro (fun h3 => fin_s0 (by rw [hs, h3, cond_true])) (fun h3 => ?_)
  rw [h3, cond_false] at hs
  refine pcond_intro (fun h4 => fin_s1 (by rw [hs, h4, cond_true])) (fun h4 => ?_)
  rw [h4, cond_false] at hs
  refine pcond_intro (fun h5 => fin_s0 (by rw [hs, h5, cond_true])) (fun h5 => ?_)
  rw [h5, cond_false] at hs
  refine pcond_intro (fun h6 => fin_s0 (by rw [hs, h6, cond_true])) (fun h6 => ?_)
  rw [h6, cond_false] at hs
  have hk0 : k ≠ 0 := by simpa using h6
  generalize listK k r.2.s r.2.n (m + 1) = q at *
  refine ⟨⟨⟨by omega, by omega, trivial⟩, hr2, by omega, by omega⟩, pcond_intro (fun h7 => fin_s0 (by rw [hs, h7, cond_true])) (fun h7 => fin_s2 (by rw [hs, h7, cond_false]))⟩
theorem stm_ok {k : Nat} (ih : ListIH k) : StmIH k := by
  intro off plain blk d blk' p h hp; unfold entp_stm at h; split at h
  · injection h with h
    simp only [Prod.mk.injEq] at h
    obtain ⟨rfl, rfl, rfl⟩ := h
    obtain ⟨⟨rfl, h1, rfl⟩, hp⟩ := hp
    exact ⟨stm_call k ⟨_, _⟩ _ _ _ _ _ ⟨ih, h1, hp⟩, by simp [NamelessL, Nameless], by simp [d_sr, d_item, NamelessL, Nameless, wordsD_nl, itemsD_nl], by simp [NamelessL, Nameless], by simp [d_bl, NamelessL, Nameless]⟩
  · cases h
def Fine (m : Int) (s' : ByteArray) (n' m' : Int) : Prop := RdOk s' n' ∧ m ≤ m' ∧ m' ≤ 600
theorem stmtT_fine {rec : ByteArray → Int → Int → LR} (hrec : ∀ s n m, RdOk s n → 0 ≤ m → m ≤ 600 → Fine m (rec s n m).s (rec s n m).n (rec s n m).m) (deep : Bool) (w : Wd) (a : Int) {s : ByteArray} {n m : Int} (hr : RdOk s n) (h0 : 0 ≤ m) (h6 : m ≤ 600) :
    Fine m (stmtT rec deep w a s n m).s (stmtT rec deep w a s n m).n (stmtT rec deep w a s n m).m ∧ ((stmtT rec deep w a s n m).e = 0 → m < (stmtT rec deep w a s n m).m) := by
  have hr2 := wordsR_ok w hr
  unfold stmtT
  generalize wordsR s n w = r at *
  cases h1 : !headB w.t w.q
  · cases h2 : decide (m = 600)
    · have h2' : m ≠ 600 := by simpa using h2
      have f1 : Fine m r.2.s r.2.n (m + 1) := ⟨hr2, by omega, by omega⟩
      have hq := hrec r.2.s r.2.n (m + 1) hr2 (by omega) (by omega)
      generalize rec r.2.s r.2.n (m + 1) = q at *
      have f2 : Fine m q.s q.n q.m := ⟨hq.1, by have := hq.2.1; omega, hq.2.2⟩
      have f3 : m < q.m := by have := hq.2.1; omega
      cases !decide (r.2.e = 0)
      · cases decide (r.2.k = 59)
        · cases !decide (r.2.k = 123)
          · cases deep
            · cases !decide (q.e = 0)
              · exact ⟨f2, fun _ => f3⟩
              · exact ⟨f2, fun _ => f3⟩
            · exact ⟨f1, fun _ => by show m < m + 1; omega⟩
          · exact ⟨f1, fun _ => by show m < m + 1; omega⟩
        · exact ⟨f1, fun _ => by show m < m + 1; omega⟩
      · exact ⟨f1, fun _ => by show m < m + 1; omega⟩
    · exact ⟨⟨hr, Int.le_refl _, h6⟩, fun h => absurd (show (3 : Int) = 0 from h) (by decide)⟩
  · exact ⟨⟨hr, Int.le_refl _, h6⟩, fun h => absurd (show (6 : Int) = 0 from h) (by decide)⟩
theorem itemsT_fine {stm : Wd → Int → ByteArray → Int → Int → SR} (hstm : ∀ w a s n m, RdOk s n → 0 ≤ m → m ≤ 600 → Fine m (stm w a s n m).s (stm w a s n m).n (stm w a s n m).m) (last : Int) : ∀ (f : Nat) {s : ByteArray} {n m : Int} (l : List Itm), RdOk s n → 0 ≤ m → m ≤ 600 → Fine m (itemsT stm last f s n m l).s (itemsT stm last f s n m l).n (itemsT stm last f s n m l).m
  | 0, s, n, m, l, hr, h0, h6 => ⟨hr, Int.le_refl _, h6⟩
  | f + 1, s, n, m, l, hr, h0, h6 => by
    have h1 := nextT_ok hr
    simp only [itemsT]
    generalize nextT s n = t at *
    have f1 : Fine m t.s t.n m := ⟨h1, Int.le_refl _, h6⟩
    have hq := hstm t.w t.a t.s t.n m h1 h0 h6
    generalize stm t.w t.a t.s t.n m = q at *
    cases !decide (t.e = 0)
    · cases decide (t.k = last)
      · cases !decide (t.k = 34)
        · cases !decide (q.e = 0)
          · have h2 := itemsT_fine hstm last f (l ++ [q.x]) hq.1 (by have := hq.2.1; omega) hq.2.2
            exact ⟨h2.1, by have := h2.2.1; have := hq.2.1; simp only [cond_false]; omega, h2.2.2⟩
          · exact hq
        · exact f1
      · exact f1
    · exact f1
theorem listK_fine : ∀ (k : Nat) (s : ByteArray) (n m : Int), RdOk s n → 0 ≤ m → m ≤ 600 → Fine m (listK k s n m).s (listK k s n m).n (listK k s n m).m
  | 0, s, n, m, hr, h0, h6 => by unfold listK; exact ⟨hr, Int.le_refl _, h6⟩
  | k + 1, s, n, m, hr, h0, h6 => by
    rw [listK_succ]
    refine itemsT_fine (fun w a s n m hr h0 h6 => ?_) _ _ _ hr h0 h6
    unfold stmK
    exact (stmtT_fine (fun s n m hr h0 h6 => listK_fine k s n m hr h0 h6) _ w a hr h0 h6).1
theorem stmK_fine (k : Nat) (w : Wd) (a : Int) {s : ByteArray} {n m : Int} (hr : RdOk s n) (h0 : 0 ≤ m) (h6 : m ≤ 600) : Fine m (stmK k w a s n m).s (stmK k w a s n m).n (stmK k w a s n m).m ∧ ((stmK k w a s n m).e = 0 → m < (stmK k w a s n m).m) := by
  unfold stmK
  exact stmtT_fine (fun s n m hr h0 h6 => listK_fine k s n m hr h0 h6) _ w a hr h0 h6
theorem itemsD_app : ∀ (a b : List Itm), itemsD (a ++ b) = itemsD a ++ itemsD b
  | [], b => by simp [itemsD]
  | x :: r, b => by rw [List.cons_append, itemsD, itemsD, itemsD_app r b, List.append_assoc]
def lp_listLoop (k : Nat) (dep : Int) (s0 : ByteArray) (n0 m0 : Int) : LoopO := loopRuleK (α := Nat × ByteArray × Int × Int × List Itm × Bool) (β := LR × Bool × Nat) 1 [.old 0, .new] (fun x => ((fuel0 : Int) ≤ (x.1 : Int) + x.2.2.2.1 ∧ 0 ≤ x.2.2.2.1 ∧ x.2.2.2.1 ≤ 600 ∧ (x.2.2.2.2.1.length : Int) ≤ x.2.2.2.1) ∧ RdOk x.2.1 x.2.2.1 ∧ itemsT (stmK k) (lastK k) x.1 x.2.1 x.2.2.1 x.2.2.2.1 x.2.2.2.2.1 = listK (k + 1) s0 n0 m0) (fun x => [(0, .ptr 0 0), (1, .v (.int .i64 dep)), (4, .v (.slice none 0 0)), (5, .v (.int .i64 0)), (6, .v (.int .i64 0)), (7, .v (.int .u8 (lastK k))), (8, .sl 1 0 x.2.2.2.2.1.length (.toEnd 4))]) (fun x => [some (d_bl x.2.1 x.2.2.1 x.2.2.2.1), some ⟨36, itemsD x.2.2.2.2.1, x.2.2.2.2.2⟩]) ((fuel0, s0, n0, m0, [], true)) (fun r => r.1 = listK (k + 1) s0 n0 m0) (fun r => (.ret, [(4, .sl 1 0 r.1.l.length (.toEnd 4)), (5, .v (.int .i64 r.1.a)), (6, .v (.int .i64 r.1.e))], [some (d_bl r.1.s r.1.n r.1.m), some ⟨36, itemsD r.1.l, r.2.1⟩]))
theorem listLoop_rule (k : Nat) (dep : Int) (s0 : ByteArray) (n0 m0 : Int) (hpre : StmIH k ∧ k ≤ 4 ∧ dep = 4 - (k : Int)) : LRuleK 1 Try.prog Try.f26.ntmps (loopAt ((Try.f26.body).getD .skip) 5) (lp_listLoop k dep s0 n0 m0) := by
  refine lruleK_of (α := Nat × ByteArray × Int × Int × List Itm × Bool) (β := LR × Bool × Nat) (call := (addPtr 33 (entp_next) (addPtr 34 (entp_stmR k) noCalls))) (lp := fun _ => none) (N := 10) T_ok mixed (addPtr_ok (entp_next_ok) (addPtr_ok (entp_stmR_ok k hpre.1) noCalls_ok)) (fun x => x.1) (by kernel_rfl) (LpAllK.none _) ?_
  intro x hJ
  refine of_eq (B := letI z35 := (Prod.fst (Prod.snd x)); letI z26 := (Prod.snd (Prod.snd x)); letI z1 := (nextT z35 (Prod.fst z26)); letI z3 := (Prod.snd z26); letI z0 := (stmK k (Wd.mk (Tok.t z1) (Tok.q z1)) (Tok.a z1) (Tok.s z1) (Tok.n z1) (Prod.fst z3)); letI z30 := (D.v (Value.int IntKind.u8 (Tok.k z1))); letI z13 := (D.v (Value.int IntKind.i64 (Tok.a z1))); letI z2 := (Option.some (Blk.mk (70 : Nat) [z30, (D.v (Value.string (Tok.t z1))), (D.v (Value.bool (Tok.q z1))), z13] Bool.true)); letI z24 := (D.v (Value.int IntKind.i64 (Itm.line (SR.x z0)))); letI z17 := (D.ro (List.length (Itm.ws (SR.x z0))) (wordsD (Itm.ws (SR.x z0)))); letI z31 := (D.v (Value.bool (Itm.bl (SR.x z0)))); letI z18 := (D.ro (List.length (Itm.ks (SR.x z0))) (itemsD (Itm.ks (SR.x z0)))); letI z4 := (Option.some (Blk.mk (36 : Nat) [z24, z17, z31, z18] Bool.true)); letI z5 := (Option.some (Blk.mk (56 : Nat) [(D.v (Value.string (Tok.s z1))), (D.v (Value.int IntKind.i64 (Tok.n z1))), (D.v (Value.int IntKind.i64 (Prod.fst z3)))] Bool.true)); letI z6 := (Prod.mk (4 : Nat) (D.v (Value.slice (Option.none) (0 : Nat) (0 : Nat)))); letI z19 := (Prod.fst (Prod.snd z3)); letI z7 := (Option.some (Blk.mk (36 : Nat) (itemsD z19) (Prod.snd (Prod.snd z3)))); letI z8 := (Prod LR (Prod Bool Nat)); letI z9 := (Cap.toEnd (4 : Nat)); letI z10 := (D.v (Value.int IntKind.i64 (0 : Int))); letI z11 := (List.length z19); letI z12 := (Option.some (Blk.mk (56 : Nat) [(D.v (Value.string (SR.s z0))), (D.v (Value.int IntKind.i64 (SR.n z0))), (D.v (Value.int IntKind.i64 (SR.m z0)))] Bool.true)); letI z14 := (listK (k + (1 : Nat)) s0 n0 m0); letI z15 := ((4 : Nat) ≤ (4 : Nat)); letI z38 := ((0 : Nat) < (4 : Nat)); letI z16 := (z38 ∧ (IsInt IntKind.u8 z30)); letI z20 := (Prod.mk (7 : Nat) (D.v (Value.int IntKind.u8 (lastK k)))); letI z21 := Exit.ret = Exit.ret; letI z22 := (((3 : Nat) < (4 : Nat)) ∧ (IsInt IntKind.i64 z13)); letI z23 := (Prod.mk (1 : Nat) (D.v (Value.int IntKind.i64 dep))); letI z25 := (Prod.mk (0 : Nat) (D.ptr (0 : Nat) (0 : Nat))); letI z27 := ((4 : Nat) = (4 : Nat)); letI z28 := (Prod.mk (5 : Nat) z10); letI z29 := (Prod.mk (6 : Nat) z10); letI z32 := (z11 + (1 : Nat)); letI z33 := (9223372036854775807 : Nat); letI z34 := ((56 : Nat) = (56 : Nat)); letI z36 := Bool.true = Bool.true; letI z37 := (Prod.mk (5 : Nat) z13); (True ∧ (True ∧ (True ∧ ((z34 ∧ (RdOk z35 (Prod.fst z26))) ∧ (True ∧ (True ∧ (True ∧ (True ∧ ((z27 ∧ z15) ∧ (True ∧ (True ∧ (True ∧ (True ∧ (pcond ((Tok.e z1) != (0 : Int)) (True ∧ (z22 ∧ (True ∧ (True ∧ (True ∧ (True ∧ (z36 ∧ (∃ (r : z8), (∃ (kp : (List KE)), (((Prod.fst r) = z14) ∧ (z21 ∧ (viewAllK (1 : Nat) kp [z6, z37, (Prod.mk (6 : Nat) (D.v (Value.int IntKind.i64 (Tok.e z1))))] [z5, z7, z2] (Prod.fst (Prod.snd ((fun (r_1 : z8) => (Prod.mk Exit.ret (Prod.mk [(Prod.mk (4 : Nat) (D.sl (1 : Nat) (0 : Nat) (List.length (LR.l (Prod.fst r_1))) z9)), (Prod.mk (5 : Nat) (D.v (Value.int IntKind.i64 (LR.a (Prod.fst r_1))))), (Prod.mk (6 : Nat) (D.v (Value.int IntKind.i64 (LR.e (Prod.fst r_1)))))] [(Option.some (d_bl (LR.s (Prod.fst r_1)) (LR.n (Prod.fst r_1)) (LR.m (Prod.fst r_1)))), (Option.some (Blk.mk (36 : TypeId) (itemsD (LR.l (Prod.fst r_1))) (Prod.fst (Prod.snd r_1))))]))) r))) (Prod.snd (Prod.snd ((fun (r_1 : z8) => (Prod.mk Exit.ret (Prod.mk [(Prod.mk (4 : Nat) (D.sl (1 : Nat) (0 : Nat) (List.length (LR.l (Prod.fst r_1))) z9)), (Prod.mk (5 : Nat) (D.v (Value.int IntKind.i64 (LR.a (Prod.fst r_1))))), (Prod.mk (6 : Nat) (D.v (Value.int IntKind.i64 (LR.e (Prod.fst r_1)))))] [(Option.some (d_bl (LR.s (Prod.fst r_1)) (LR.n (Prod.fst r_1)) (LR.m (Prod.fst r_1)))), (Option.some (Blk.mk (36 : TypeId) (itemsD (LR.l (Prod.fst r_1))) (Prod.fst (Prod.snd r_1))))]))) r))))))))))))))) (True ∧ (z16 ∧ (True ∧ (True ∧ (True ∧ (pcond ((Tok.k z1) == (lastK k)) (True ∧ (True ∧ (True ∧ (True ∧ (∃ (r : z8), (∃ (kp : (List KE)), (((Prod.fst r) = z14) ∧ (z21 ∧ (viewAllK (1 : Nat) kp [(Prod.mk (4 : Nat) (D.sl (1 : Nat) (0 : Nat) z11 z9)), z28, z29] [z5, z7, z2] (Prod.fst (Prod.snd ((fun (r_1 : z8) => (Prod.mk Exit.ret (Prod.mk [(Prod.mk (4 : Nat) (D.sl (1 : Nat) (0 : Nat) (List.length (LR.l (Prod.fst r_1))) z9)), (Prod.mk (5 : Nat) (D.v (Value.int IntKind.i64 (LR.a (Prod.fst r_1))))), (Prod.mk (6 : Nat) (D.v (Value.int IntKind.i64 (LR.e (Prod.fst r_1)))))] [(Option.some (d_bl (LR.s (Prod.fst r_1)) (LR.n (Prod.fst r_1)) (LR.m (Prod.fst r_1)))), (Option.some (Blk.mk (36 : TypeId) (itemsD (LR.l (Prod.fst r_1))) (Prod.fst (Prod.snd r_1))))]))) r))) (Prod.snd (Prod.snd ((fun (r_1 : z8) => (Prod.mk Exit.ret (Prod.mk [(Prod.mk (4 : Nat) (D.sl (1 : Nat) (0 : Nat) (List.length (LR.l (Prod.fst r_1))) z9)), (Prod.mk (5 : Nat) (D.v (Value.int IntKind.i64 (LR.a (Prod.fst r_1))))), (Prod.mk (6 : Nat) (D.v (Value.int IntKind.i64 (LR.e (Prod.fst r_1)))))] [(Option.some (d_bl (LR.s (Prod.fst r_1)) (LR.n (Prod.fst r_1)) (LR.m (Prod.fst r_1)))), (Option.some (Blk.mk (36 : TypeId) (itemsD (LR.l (Prod.fst r_1))) (Prod.fst (Prod.snd r_1))))]))) r)))))))))))) (True ∧ (z16 ∧ (True ∧ (True ∧ (pcond ((Tok.k z1) != (34 : Int)) (True ∧ (z22 ∧ (True ∧ (True ∧ (True ∧ (z36 ∧ (∃ (r : z8), (∃ (kp : (List KE)), (((Prod.fst r) = z14) ∧ (z21 ∧ (viewAllK (1 : Nat) kp [z6, z37, (Prod.mk (6 : Nat) (D.v (Value.int IntKind.i64 (6 : Int))))] [z5, z7, z2] (Prod.fst (Prod.snd ((fun (r_1 : z8) => (Prod.mk Exit.ret (Prod.mk [(Prod.mk (4 : Nat) (D.sl (1 : Nat) (0 : Nat) (List.length (LR.l (Prod.fst r_1))) z9)), (Prod.mk (5 : Nat) (D.v (Value.int IntKind.i64 (LR.a (Prod.fst r_1))))), (Prod.mk (6 : Nat) (D.v (Value.int IntKind.i64 (LR.e (Prod.fst r_1)))))] [(Option.some (d_bl (LR.s (Prod.fst r_1)) (LR.n (Prod.fst r_1)) (LR.m (Prod.fst r_1)))), (Option.some (Blk.mk (36 : TypeId) (itemsD (LR.l (Prod.fst r_1))) (Prod.fst (Prod.snd r_1))))]))) r))) (Prod.snd (Prod.snd ((fun (r_1 : z8) => (Prod.mk Exit.ret (Prod.mk [(Prod.mk (4 : Nat) (D.sl (1 : Nat) (0 : Nat) (List.length (LR.l (Prod.fst r_1))) z9)), (Prod.mk (5 : Nat) (D.v (Value.int IntKind.i64 (LR.a (Prod.fst r_1))))), (Prod.mk (6 : Nat) (D.v (Value.int IntKind.i64 (LR.e (Prod.fst r_1)))))] [(Option.some (d_bl (LR.s (Prod.fst r_1)) (LR.n (Prod.fst r_1)) (LR.m (Prod.fst r_1)))), (Option.some (Blk.mk (36 : TypeId) (itemsD (LR.l (Prod.fst r_1))) (Prod.fst (Prod.snd r_1))))]))) r)))))))))))))) (True ∧ (z15 ∧ (True ∧ (((z34 ∧ ((k ≤ (4 : Nat)) ∧ (dep = ((4 : Int) - ((k : Nat) : Int))))) ∧ ((RdOk (Tok.s z1) (Tok.n z1)) ∧ (((0 : Int) ≤ (Prod.fst z3)) ∧ ((Prod.fst z3) ≤ (600 : Int))))) ∧ (True ∧ (True ∧ (True ∧ (True ∧ (True ∧ ((z27 ∧ z15) ∧ (True ∧ (True ∧ (True ∧ (True ∧ (pcond ((SR.e z0) != (0 : Int)) (True ∧ (True ∧ (True ∧ (True ∧ (True ∧ (∃ (r : z8), (∃ (kp : (List KE)), (((Prod.fst r) = z14) ∧ (z21 ∧ (viewAllK (1 : Nat) kp [z6, (Prod.mk (5 : Nat) (D.v (Value.int IntKind.i64 (SR.a z0)))), (Prod.mk (6 : Nat) (D.v (Value.int IntKind.i64 (SR.e z0))))] [z12, z7, z2, z4] (Prod.fst (Prod.snd ((fun (r_1 : z8) => (Prod.mk Exit.ret (Prod.mk [(Prod.mk (4 : Nat) (D.sl (1 : Nat) (0 : Nat) (List.length (LR.l (Prod.fst r_1))) z9)), (Prod.mk (5 : Nat) (D.v (Value.int IntKind.i64 (LR.a (Prod.fst r_1))))), (Prod.mk (6 : Nat) (D.v (Value.int IntKind.i64 (LR.e (Prod.fst r_1)))))] [(Option.some (d_bl (LR.s (Prod.fst r_1)) (LR.n (Prod.fst r_1)) (LR.m (Prod.fst r_1)))), (Option.some (Blk.mk (36 : TypeId) (itemsD (LR.l (Prod.fst r_1))) (Prod.fst (Prod.snd r_1))))]))) r))) (Prod.snd (Prod.snd ((fun (r_1 : z8) => (Prod.mk Exit.ret (Prod.mk [(Prod.mk (4 : Nat) (D.sl (1 : Nat) (0 : Nat) (List.length (LR.l (Prod.fst r_1))) z9)), (Prod.mk (5 : Nat) (D.v (Value.int IntKind.i64 (LR.a (Prod.fst r_1))))), (Prod.mk (6 : Nat) (D.v (Value.int IntKind.i64 (LR.e (Prod.fst r_1)))))] [(Option.some (d_bl (LR.s (Prod.fst r_1)) (LR.n (Prod.fst r_1)) (LR.m (Prod.fst r_1)))), (Option.some (Blk.mk (36 : TypeId) (itemsD (LR.l (Prod.fst r_1))) (Prod.fst (Prod.snd r_1))))]))) r))))))))))))) (True ∧ (z15 ∧ ((((4 : Nat) ≤ (16777216 : Nat)) ∧ ((1 : Nat) ≤ z33)) ∧ ((z15 ∧ (((22 : Nat) = (22 : Nat)) ∧ (z27 ∧ (((36 : Nat) = (36 : Nat)) ∧ (((z11 * (4 : Nat)) ≤ (List.length (itemsD z19))) ∧ (z38 ∧ ((z32 ≤ z33) ∧ ((z32 * (64 : Nat)) ≤ (140737488355328 : Nat))))))))) ∧ (True ∧ (∃ (y : (Prod Nat (Prod ByteArray (Prod Int (Prod Int (Prod (List Itm) Bool)))))), (∃ (kp : (List KE)), (((Prod.fst y) < (Prod.fst x)) ∧ (((((601 : Int) ≤ ((((Prod.fst y) : Nat) : Int) + (Prod.fst (Prod.snd (Prod.snd (Prod.snd y)))))) ∧ (((0 : Int) ≤ (Prod.fst (Prod.snd (Prod.snd (Prod.snd y))))) ∧ (((Prod.fst (Prod.snd (Prod.snd (Prod.snd y)))) ≤ (600 : Int)) ∧ ((((List.length (Prod.fst (Prod.snd (Prod.snd (Prod.snd (Prod.snd y)))))) : Nat) : Int) ≤ (Prod.fst (Prod.snd (Prod.snd (Prod.snd y)))))))) ∧ ((RdOk (Prod.fst (Prod.snd y)) (Prod.fst (Prod.snd (Prod.snd y)))) ∧ ((itemsT (stmK k) (lastK k) (Prod.fst y) (Prod.fst (Prod.snd y)) (Prod.fst (Prod.snd (Prod.snd y))) (Prod.fst (Prod.snd (Prod.snd (Prod.snd y)))) (Prod.fst (Prod.snd (Prod.snd (Prod.snd (Prod.snd y)))))) = z14))) ∧ (viewAllK (1 : Nat) kp [z25, z23, z6, z28, z29, z20, (Prod.mk (8 : Nat) (D.sl (5 : Nat) (0 : Nat) z32 z9))] [z12, (Option.none), z2, z4, z4, (Option.some (Blk.mk (36 : Nat) ((List.take (z11 * (4 : Nat)) (itemsD z19)) ++ [z24, z17, z31, z18]) Bool.false))] [z25, z23, z6, z28, z29, z20, (Prod.mk (8 : Nat) (D.sl (1 : Nat) (0 : Nat) (List.length (Prod.fst (Prod.snd (Prod.snd (Prod.snd (Prod.snd y)))))) z9))] [(Option.some (d_bl (Prod.fst (Prod.snd y)) (Prod.fst (Prod.snd (Prod.snd y))) (Prod.fst (Prod.snd (Prod.snd (Prod.snd y)))))), (Option.some (Blk.mk (36 : TypeId) (itemsD (Prod.fst (Prod.snd (Prod.snd (Prod.snd (Prod.snd y)))))) (Prod.snd (Prod.snd (Prod.snd (Prod.snd (Prod.snd y)))))))]))))))))))))))))))))))))))))))))))))))))))))))))))) (by kernel_rfl) ?_
  obtain ⟨f, s, n, m, l, fl⟩ := x
  dsimp only at hJ
  obtain ⟨⟨hf, hm1, hm2, hl⟩, hr, hw⟩ := hJ
  have hfe := fuel0_eq
  obtain ⟨f, rfl⟩ : ∃ f', f = f' + 1 := ⟨f - 1, by omega⟩
  obtain ⟨ih, hk, hdep⟩ := hpre
  simp only [true_and, and_true, and_self, IsInt_lit, IsBool_lit, IsStr_lit, IsSl_lit, cellN_lit, cellL_lit, Bool.not_eq_true', Bool.not_eq_false', Bool.not_true, Bool.not_false, Int.reduceLE, Int.reduceLT, Int.reduceNeg, Nat.le_refl, Int.le_refl, Nat.reduceLT, Nat.reduceLeDiff, Nat.reduceEqDiff, D.v.injEq, D.tup.injEq, D.agg.injEq, D.ro.injEq, List.cons.injEq, Value.int.injEq, Value.bool.injEq, pcond_true, pcond_false, NamelessL, Nameless, Nat.reduceMul, Nat.reduceAdd, Nat.zero_add, Int.toNat_natCast]
  have ht := nextT_ok hr
  simp only [itemsT] at hw
  simp only [bneI, beqI]
  generalize nextT s n = t at *
  generalize listK (k + 1) s0 n0 m0 = R at *
  rw [show (⟨t.t, t.q⟩ : Wd) = t.w from rfl]
  have hq := stmK_fine k t.w t.a ht hm1 hm2
  generalize stmK k t.w t.a t.s t.n m = q at *
  have err : ∀ (a e : Int) (s : ByteArray) (n m : Int) (T : Heap) (fl : Bool) (cs : List D), (⟨[], a, e, s, n, m⟩ : LR) = R →
      ∃ (r : LR × Bool × Nat) (kp : List KE), r.1 = R ∧ viewAllK 1 kp [(4, D.v (Value.slice none 0 0)), (5, D.v (Value.int IntKind.i64 a)), (6, D.v (Value.int IntKind.i64 e))] (some (d_bl s n m) :: some ⟨36, cs, fl⟩ :: T)
        [(4, D.sl 1 0 r.1.l.length (.toEnd 4)), (5, D.v (Value.int IntKind.i64 r.1.a)), (6, D.v (Value.int IntKind.i64 r.1.e))] [some (d_bl r.1.s r.1.n r.1.m), some ⟨36, itemsD r.1.l, r.2.1⟩] := fun a e s n m T fl cs h => by
    refine ⟨(⟨[], a, e, s, n, m⟩, true, 0), [.old 0, .new], h, ?_⟩
    unfold d_bl
    refine of_eq (B := letI z8 := ([] : List Itm); letI z10 := (Cap.toEnd (4 : Nat)); letI z0 := (D.sl (1 : Nat) (0 : Nat) (List.length (LR.l (Prod.fst (Prod.mk (LR.mk z8 a e s n m) (Prod.mk Bool.true (0 : Nat)))))) z10); letI z5 := (D.v (Value.string s)); letI z3 := (D.v (Value.int IntKind.i64 n)); letI z4 := (D.v (Value.int IntKind.i64 m)); letI z1 := (Option.some (Blk.mk (56 : Nat) [z5, z3, z4] Bool.true)); letI z2 := (D.v (Value.slice (Option.none) (0 : Nat) (0 : Nat))); letI z6 := (D.v (Value.int IntKind.i64 a)); letI z7 := (D.v (Value.int IntKind.i64 e)); letI z9 := ([] : List (Option Blk)); ((Bool.true = Bool.true) ∧ ((((z1 = z1) ∧ (NamelessL [z5, z3, z4])) ∧ (((itemsD z8) = ([] : List D)) ∧ (z9 = z9))) ∧ ((cond.match_1 (fun (c : Bool) => Prop) (nilOk.match_2 (fun (x : D) => (fun (x_1 : D) => Bool)) z2 (D.sl (1 : Nat) (0 : Nat) (List.length z8) z10) (fun (b : Nat) => (fun (es : Nat) => Bool.true)) (fun (x : D) => (fun (x_1 : D) => Bool.false))) (fun (_ : Unit) => (nilOkK [(KE.old (0 : Nat)), KE.new] z2 z0)) (fun (_ : Unit) => (viewOkK.match_1 (fun (x : (Option (Prod D Prop))) => Prop) (viewD (kO [(KE.old (0 : Nat)), KE.new]) (List.cons (Option.some (Blk.mk (56 : TypeId) [z5, z3, z4] Bool.true)) (List.cons (Option.some (Blk.mk (36 : TypeId) cs fl)) T)) z2) (fun (e_1 : D) => (fun (c : Prop) => (c ∧ (e_1 = z0)))) (fun (__1 : Unit) => False)))) ∧ ((True ∧ (z6 = z6)) ∧ ((True ∧ (z7 = z7)) ∧ True)))))) (by kernel_rfl) ?_
    simp [NamelessL, Nameless, items_nil, nilOkK]
  refine ⟨hr, pcond_intro (fun h2 => ?_) (fun h2 => ?_)⟩
  · rw [h2, cond_true] at hw
    exact err _ _ _ _ _ _ _ _ hw
  · rw [h2, cond_false] at hw
    refine pcond_intro (fun h3 => ?_) (fun h3 => ?_)
    · rw [h3, cond_true] at hw
      refine ⟨(⟨l, 0, 0, t.s, t.n, m⟩, fl, 0), [.old 0, .old 1], hw, ?_⟩
      refine of_eq (B := letI z6 := (D.v (Value.string (Tok.s t))); letI z4 := (D.v (Value.int IntKind.i64 (Tok.n t))); letI z5 := (D.v (Value.int IntKind.i64 m)); letI z0 := (Option.some (Blk.mk (56 : Nat) [z6, z4, z5] Bool.true)); letI z1 := (D.v (Value.int IntKind.i64 (0 : Int))); letI z2 := (D.sl (1 : Nat) (0 : Nat) (List.length l) (Cap.toEnd (4 : Nat))); letI z3 := (Option.some (Blk.mk (36 : Nat) (itemsD l) fl)); letI z7 := ([] : List (Option Blk)); letI z8 := (True ∧ (z1 = z1)); ((Bool.true = Bool.true) ∧ ((((z0 = z0) ∧ (NamelessL [z6, z4, z5])) ∧ (((z3 = z3) ∧ (NamelessL (itemsD l))) ∧ (z7 = z7))) ∧ ((True ∧ (z2 = z2)) ∧ (z8 ∧ (z8 ∧ True)))))) (by kernel_rfl) ?_
      simp [NamelessL, Nameless, itemsD_nl]
    · rw [h3, cond_false] at hw
      refine pcond_intro (fun h4 => ?_) (fun h4 => ⟨⟨⟨hk, hdep⟩, ht, hm1, hm2⟩, ?_⟩)
      · rw [h4, cond_true] at hw
        exact err _ _ _ _ _ _ _ _ hw
      · rw [h4, cond_false] at hw
        refine pcond_intro (fun h5 => ?_) (fun h5 => ?_)
        · rw [h5, cond_true] at hw
          exact err _ _ _ _ _ _ _ _ hw
        · rw [h5, cond_false] at hw
          have he : q.e = 0 := by simpa using h5
          have hlt := hq.2 he
          have hil := itemsD_length l
          refine ⟨⟨by omega, by omega, by omega⟩, (f, q.s, q.n, q.m, l ++ [q.x], false), [.old 0, .old 5], Nat.lt_succ_self f, ⟨⟨?_, ?_, hq.1.2.2, ?_⟩, hq.1.1, hw⟩, ?_⟩
          · show (601 : Int) ≤ (f : Int) + q.m
            omega
          · show 0 ≤ q.m
            omega
          · show ((l ++ [q.x]).length : Int) ≤ q.m
            simp only [List.length_append, List.length_cons, List.length_nil]; omega
          · rw [List.take_of_length_le (by omega), show itemsD l ++ [D.v (Value.int IntKind.i64 q.x.line), D.ro q.x.ws.length (wordsD q.x.ws), D.v (Value.bool q.x.bl), D.ro q.x.ks.length (itemsD q.x.ks)] = itemsD (l ++ [q.x]) by rw [itemsD_app, itemsD, items_nil, List.append_nil, itemD_eq], show l.length + 1 = (l ++ [q.x]).length by simp]
            refine of_eq (B := letI z10 := (D.v (Value.string (SR.s q))); letI z5 := (D.v (Value.int IntKind.i64 (SR.n q))); letI z6 := (D.v (Value.int IntKind.i64 (SR.m q))); letI z0 := (Option.some (Blk.mk (56 : Nat) [z10, z5, z6] Bool.true)); letI z1 := (D.v (Value.int IntKind.i64 (0 : Int))); letI z9 := (l ++ [(SR.x q)]); letI z2 := (D.sl (1 : Nat) (0 : Nat) (List.length z9) (Cap.toEnd (4 : Nat))); letI z3 := (Option.some (Blk.mk (36 : Nat) (itemsD z9) Bool.false)); letI z4 := (D.v (Value.slice (Option.none) (0 : Nat) (0 : Nat))); letI z7 := (D.v (Value.int IntKind.u8 (lastK k))); letI z8 := (D.v (Value.int IntKind.i64 dep)); letI z11 := (D.ptr (0 : Nat) (0 : Nat)); letI z12 := ([] : List (Option Blk)); letI z13 := (True ∧ (z1 = z1)); ((Bool.true = Bool.true) ∧ ((((z0 = z0) ∧ (NamelessL [z10, z5, z6])) ∧ (((z3 = z3) ∧ (NamelessL (itemsD z9))) ∧ (z12 = z12))) ∧ ((True ∧ (z11 = z11)) ∧ ((True ∧ (z8 = z8)) ∧ ((True ∧ (z4 = z4)) ∧ (z13 ∧ (z13 ∧ ((True ∧ (z7 = z7)) ∧ ((True ∧ (z2 = z2)) ∧ True)))))))))) (by kernel_rfl) ?_
            simp [NamelessL, Nameless, itemsD_nl]
theorem list_call (j : Nat) (dep : Int) (s : ByteArray) (n m : Int) (hpre : ListIH j ∧ j ≤ 4 ∧ dep = 4 - (j : Int) ∧ RdOk s n ∧ 0 ≤ m ∧ m ≤ 600) : CallJ Try.prog 26 [.ptr 0 0, .v (.int .i64 dep)] ([some (d_bl s n m)]) (d_lr (listK (j + 1) s n m)) ([some (d_bl (listK (j + 1) s n m).s (listK (j + 1) s n m).n (listK (j + 1) s n m).m)]) := by
  refine callJ_of_vck (k := 1) (call := noCalls) (lp := fun k => bif Nat.beq k 5 then some (lp_listLoop j dep s n m) else none) (N := 10) T_ok mixed noCalls_ok Try.func26 rfl (by decide) (by kernel_rfl) (by kernel_rfl) rfl (of_eq (B := LRuleK 1 Try.prog Try.f26.ntmps (loopAt ((Try.f26.body).getD .skip) 5) (lp_listLoop j dep s n m) ∧ True) (by kernel_rfl) ⟨listLoop_rule j dep s n m ⟨stm_ok hpre.1, hpre.2.1, hpre.2.2.1⟩, trivial⟩) ?_
  refine of_eq (B := letI z16 := (D.v (Value.string s)); letI z11 := (D.v (Value.int IntKind.i64 n)); letI z12 := (D.v (Value.int IntKind.i64 m)); letI z5 := (Option.some (Blk.mk (56 : Nat) [z16, z11, z12] Bool.true)); letI z14 := ([] : List (Option Blk)); letI z0 := (((z5 = z5) ∧ (NamelessL [z16, z11, z12])) ∧ (((itemsD ([] : List Itm)) = ([] : List D)) ∧ (z14 = z14))); letI z1 := (listK (j + (1 : Nat)) s n m); letI z9 := (D.v (Value.int IntKind.i64 (0 : Int))); letI z2 := (True ∧ (z9 = z9)); letI z3 := ((((601 : Int) ≤ ((((601 : Nat) : Nat) : Int) + m)) ∧ (((0 : Int) ≤ m) ∧ ((m ≤ (600 : Int)) ∧ ((((0 : Nat) : Nat) : Int) ≤ m)))) ∧ ((RdOk s n) ∧ ((itemsT (stmK j) (lastK j) (601 : Nat) s n m ([] : List Itm)) = z1))); letI z4 := (D.v (Value.slice (Option.none) (0 : Nat) (0 : Nat))); letI z6 := (D.v (Value.int IntKind.i64 dep)); letI z7 := (D.ptr (0 : Nat) (0 : Nat)); letI z8 := (Option.some (d_bl (LR.s z1) (LR.n z1) (LR.m z1))); letI z10 := (D.v (Value.int IntKind.u8 (lastK j))); letI z13 := (Prod LR (Prod Bool Nat)); letI z15 := Bool.true = Bool.true; letI z17 := (Cap.toEnd (4 : Nat)); letI z18 := (True ∧ (z7 = z7)); letI z19 := (True ∧ (z6 = z6)); letI z20 := (True ∧ (z4 = z4)); (True ∧ (True ∧ (True ∧ (True ∧ (True ∧ (True ∧ (pcond (Decidable.decide ((0 : Int) < dep)) (True ∧ (True ∧ (z3 ∧ ((z15 ∧ (z0 ∧ (z18 ∧ (z19 ∧ (z20 ∧ (z2 ∧ (z2 ∧ ((True ∧ ((D.v (Value.int IntKind.u8 (125 : Int))) = z10)) ∧ (True ∧ True))))))))) ∧ (∀ (r : z13), (((Prod.fst r) = z1) → (True ∧ (∃ (kp : (List KE)), (viewFin (1 : Nat) kp [(Option.some (Blk.mk (56 : Nat) [(D.v (Value.string (LR.s (Prod.fst r)))), (D.v (Value.int IntKind.i64 (LR.n (Prod.fst r)))), (D.v (Value.int IntKind.i64 (LR.m (Prod.fst r))))] Bool.true)), (Option.some (Blk.mk (36 : Nat) (itemsD (LR.l (Prod.fst r))) (Prod.fst (Prod.snd r))))] (D.tup [(D.sl (1 : Nat) (0 : Nat) (List.length (LR.l (Prod.fst r))) z17), (D.v (Value.int IntKind.i64 (LR.a (Prod.fst r)))), (D.v (Value.int IntKind.i64 (LR.e (Prod.fst r))))]) (d_lr z1) [z8]))))))))) (True ∧ (z3 ∧ ((z15 ∧ (z0 ∧ (z18 ∧ (z19 ∧ (z20 ∧ (z2 ∧ (z2 ∧ ((True ∧ ((D.v (Value.int IntKind.u8 (0 : Int))) = z10)) ∧ (True ∧ True))))))))) ∧ (∀ (r : z13), (((Prod.fst r) = z1) → (True ∧ (∃ (kp : (List KE)), (viewFin (1 : Nat) kp [(Option.some (Blk.mk (56 : Nat) [(D.v (Value.string (LR.s (Prod.fst r)))), (D.v (Value.int IntKind.i64 (LR.n (Prod.fst r)))), (D.v (Value.int IntKind.i64 (LR.m (Prod.fst r))))] Bool.true)), (Option.some (Blk.mk (36 : Nat) (itemsD (LR.l (Prod.fst r))) (Prod.fst (Prod.snd r))))] (D.tup [(D.sl (1 : Nat) (0 : Nat) (List.length (LR.l (Prod.fst r))) z17), (D.v (Value.int IntKind.i64 (LR.a (Prod.fst r)))), (D.v (Value.int IntKind.i64 (LR.e (Prod.fst r))))]) (d_lr z1) [z8])))))))))))))))) (by kernel_rfl) ?_
  simp only [true_and, and_true, and_self, IsInt_lit, IsBool_lit, IsStr_lit, IsSl_lit, cellN_lit, cellL_lit, Bool.not_eq_true', Bool.not_eq_false', Bool.not_true, Bool.not_false, Int.reduceLE, Int.reduceLT, Int.reduceNeg, Nat.le_refl, Int.le_refl, Nat.reduceLT, Nat.reduceLeDiff, Nat.reduceEqDiff, D.v.injEq, D.tup.injEq, D.agg.injEq, D.ro.injEq, List.cons.injEq, Value.int.injEq, Value.bool.injEq, pcond_true, pcond_false, NamelessL, Nameless, Nat.reduceMul, Nat.reduceAdd, Nat.zero_add, Int.toNat_natCast]
  obtain ⟨ih, hj, hdep, hr, hm1, hm2⟩ := hpre
  have e1 : itemsT (stmK j) (lastK j) 601 s n m [] = listK (j + 1) s n m := by rw [listK_succ, fuel0_eq]
  have fin : ∀ (r : LR × Bool × Nat), r.1 = listK (j + 1) s n m → ∃ kp, viewFin 1 kp [some (d_bl r.1.s r.1.n r.1.m), some ⟨36, itemsD r.1.l, r.2.1⟩] (.tup [.sl 1 0 r.1.l.length (.toEnd 4), .v (.int .i64 r.1.a), .v (.int .i64 r.1.e)])
      (d_lr (listK (j + 1) s n m)) [some (d_bl (listK (j + 1) s n m).s (listK (j + 1) s n m).n (listK (j + 1) s n m).m)] := fun r h => by
    rw [← h]
    refine ⟨[.old 0], ?_⟩
    have := itemsD_length r.1.l
    refine of_eq (B := letI z7 := (D.v (Value.string (LR.s (Prod.fst r)))); letI z2 := (D.v (Value.int IntKind.i64 (LR.n (Prod.fst r)))); letI z3 := (D.v (Value.int IntKind.i64 (LR.m (Prod.fst r)))); letI z0 := (Option.some (Blk.mk (56 : Nat) [z7, z2, z3] Bool.true)); letI z1 := (LR.l (Prod.fst r)); letI z4 := (D.v (Value.int IntKind.i64 (LR.a (Prod.fst r)))); letI z5 := (D.v (Value.int IntKind.i64 (LR.e (Prod.fst r)))); letI z6 := List.length z1; letI z8 := ([] : List (Option Blk)); ((Bool.true = Bool.true) ∧ ((((z0 = z0) ∧ (NamelessL [z7, z2, z3])) ∧ (z8 = z8)) ∧ ((((NamelessL (itemsD z1)) ∧ (((0 : Nat) < (4 : Nat)) ∧ (((0 : Nat) + (z6 * (4 : Nat))) ≤ (List.length (itemsD z1))))) ∧ (True ∧ (True ∧ True))) ∧ ((D.tup [(D.ro z6 (List.take (z6 * (4 : Nat)) (List.drop (0 : Nat) (itemsD z1)))), z4, z5]) = (D.tup [(D.ro z6 (itemsD z1)), z4, z5])))))) (by kernel_rfl) ?_
    simp [NamelessL, Nameless, itemsD_nl]
    exact ⟨by omega, List.take_of_length_le (by omega)⟩
  refine pcond_intro (fun h => ⟨⟨⟨by omega, hm1, hm2, by omega⟩, hr, e1⟩, ⟨items_nil, ?_⟩, fin⟩) (fun h => ⟨⟨⟨by omega, hm1, hm2, by omega⟩, hr, e1⟩, ⟨items_nil, ?_⟩, fin⟩)
  · simp only [decide_eq_true_eq] at h
    unfold lastK; rw [decide_eq_false (by omega)]; rfl
  · simp only [decide_eq_false_iff_not] at h
    unfold lastK; rw [decide_eq_true (by omega)]; rfl
theorem list_ok {k : Nat} (ih : ListIH k) : ListIH (k + 1) := by
  intro off plain blk d blk' p h hp; unfold entp_list at h; split at h
  · injection h with h
    simp only [Prod.mk.injEq] at h
    obtain ⟨rfl, rfl, rfl⟩ := h
    obtain ⟨⟨rfl, h1, h2, rfl⟩, hp⟩ := hp
    have := list_call k (5 - ((k + 1 : Nat) : Int)) _ _ _ ⟨ih, by omega, by omega, hp⟩
    exact ⟨this, by simp [NamelessL, Nameless], by simp [d_lr, NamelessL, Nameless, itemsD_nl], by simp [NamelessL, Nameless], by simp [d_bl, NamelessL, Nameless]⟩
  · cases h
theorem list_all : ∀ k, ListIH k
  | 0 => by
    intro off plain blk d blk' p h hp; unfold entp_list at h; split at h
    · injection h with h
      simp only [Prod.mk.injEq] at h
      obtain ⟨rfl, rfl, rfl⟩ := h
      exact absurd hp.1.2.1 (by omega)
    · cases h
  | k + 1 => list_ok (list_all k)
theorem entp_list_ok (k : Nat) : EntPOk Try.prog 26 (entp_list k) := list_all k
def parseT (s : ByteArray) : LR := bif decide (12000 < s.size) then ⟨[], 0, 4, ⟨#[]⟩, 0, 0⟩ else listK 5 s 1 0
attribute [irreducible] parseT
theorem parse_pure (s : ByteArray) : PureJ Try.prog 16 [.v (.string s)] (d_lr (parseT s)) := by
  refine pureJ_of_vcpN (call := (addPtr 26 (entp_list 5) noCalls)) (lp := fun _ => none) (N := 10) T_ok mixed (addPtr_ok (entp_list_ok 5) noCalls_ok) Try.func16 rfl (by decide) (by kernel_rfl) (by kernel_rfl) (LpAllP.none _) (by first | trivial | exact itemsD_nl _ | simp [NamelessL, Nameless, d_lr, itemsD_nl]) (by first | trivial | exact itemsD_nl _ | simp [NamelessL, Nameless, d_lr, itemsD_nl]) ?_
  refine of_eq (B := letI z0 := (D.tup [(D.ro (List.length (LR.l (parseT s))) (itemsD (LR.l (parseT s)))), (D.v (Value.int IntKind.i64 (LR.a (parseT s)))), (D.v (Value.int IntKind.i64 (LR.e (parseT s))))]); letI z1 := (listK (5 : Nat) s (1 : Int) (0 : Int)); letI z2 := (True ∧ (True ∧ (True ∧ True))); (True ∧ (True ∧ (True ∧ (True ∧ (True ∧ (True ∧ (pcond (Decidable.decide ((12000 : Int) < (((ByteArray.size s) : Nat) : Int))) (True ∧ (True ∧ (True ∧ (True ∧ (z2 ∧ ((D.tup [(D.ro (0 : Nat) ([] : List D)), (D.v (Value.int IntKind.i64 (0 : Int))), (D.v (Value.int IntKind.i64 (4 : Int)))]) = z0)))))) (True ∧ (True ∧ (True ∧ (True ∧ ((((3 : Nat) = (3 : Nat)) ∧ ((3 : Nat) ≤ (3 : Nat))) ∧ (((((56 : Nat) = (56 : Nat)) ∧ (((1 : Nat) ≤ (5 : Nat)) ∧ (((5 : Nat) ≤ (5 : Nat)) ∧ ((0 : Int) = (0 : Int))))) ∧ ((RdOk s (1 : Int)) ∧ (((0 : Int) ≤ (0 : Int)) ∧ ((0 : Int) ≤ (600 : Int))))) ∧ (True ∧ (True ∧ (True ∧ (True ∧ (True ∧ (True ∧ (True ∧ (z2 ∧ ((D.tup [(D.ro (List.length (LR.l z1)) (itemsD (LR.l z1))), (D.v (Value.int IntKind.i64 (LR.a z1))), (D.v (Value.int IntKind.i64 (LR.e z1)))]) = z0))))))))))))))))))))))) (by kernel_rfl) ?_
  simp only [true_and, and_true, and_self, IsInt_lit, IsBool_lit, IsStr_lit, IsSl_lit, cellN_lit, cellL_lit, Bool.not_eq_true', Bool.not_eq_false', Bool.not_true, Bool.not_false, Int.reduceLE, Int.reduceLT, Int.reduceNeg, Nat.le_refl, Int.le_refl, Nat.reduceLT, Nat.reduceLeDiff, Nat.reduceEqDiff, D.v.injEq, D.tup.injEq, D.agg.injEq, D.ro.injEq, List.cons.injEq, Value.int.injEq, Value.bool.injEq, pcond_true, pcond_false, NamelessL, Nameless, Nat.reduceMul, Nat.reduceAdd, Nat.zero_add, Int.toNat_natCast]
  have e : parseT s = bif decide (12000 < s.size) then ⟨[], 0, 4, ⟨#[]⟩, 0, 0⟩ else listK 5 s 1 0 := by unfold parseT; rfl
  rw [e]
  refine pcond_intro (fun h => ?_) (fun h => ?_)
  · simp only [decide_eq_true_eq] at h
    rw [decide_eq_true (show 12000 < s.size by omega), cond_true]
    exact ⟨⟨rfl, items_nil.symm⟩, rfl, rfl⟩
  · simp only [decide_eq_false_iff_not] at h
    rw [decide_eq_false (show ¬ 12000 < s.size by omega), cond_false]
    exact ⟨⟨by omega, by omega⟩, ⟨rfl, rfl⟩, rfl, rfl⟩
def ent_parse : Ent := fun ds => match ds with
  | [.v (.string s)] => some (d_lr (parseT s), True)
  | _ => none
theorem ent_parse_ok : EntOk Try.prog 16 ent_parse := by
  intro ds d c h hc; unfold ent_parse at h; split at h
  · obtain ⟨rfl, rfl⟩ := pair_inj h; exact parse_pure _
  · cases h
end Go.Proofs.Ytahiigfpikohgaa
end
section
namespace Go.Proofs.Ytahiigfpikohgaa
open Go.VD
set_option linter.unusedVariables false
set_option linter.unusedSimpArgs false
set_option maxRecDepth 100000
abbrev dl (s : ByteArray) : List UInt8 := s.data.toList
theorem ba_ext {a b : ByteArray} (h : dl a = dl b) : a = b := by
  cases a; cases b; congr 1; exact Array.toList_inj.1 h
theorem dl_app (a b : ByteArray) : dl (a ++ b) = dl a ++ dl b := by
  unfold dl; rw [ByteArray.data_append, Array.toList_append]
theorem dl_extract (s : ByteArray) (a b : Nat) : dl (s.extract a b) = ((dl s).take b).drop a := by
  unfold dl
  rw [ByteArray.data_extract, Array.toList_extract, List.extract_eq_take_drop, ← List.drop_take]
theorem drop_idx (p : UInt8 → Bool) : ∀ l : List UInt8, l.drop (l.findIdx fun b => !p b) = l.dropWhile p
  | [] => rfl
  | b :: r => by
    rw [List.findIdx_cons, List.dropWhile_cons]
    cases h : p b
    · simp
    · simp only [Bool.not_true, cond_false, if_true, List.drop_succ_cons]; exact drop_idx p r
theorem take_idx (p : UInt8 → Bool) : ∀ l : List UInt8, l.take (l.findIdx fun b => !p b) = l.takeWhile p
  | [] => rfl
  | b :: r => by
    rw [List.findIdx_cons, List.takeWhile_cons]
    cases h : p b
    · simp
    · simp only [Bool.not_true, cond_false, if_true, List.take_succ_cons]; rw [take_idx p r]
theorem rs_dl (p : Nat → Bool) (s : ByteArray) : dl (rs p s) = (dl s).dropWhile fun b => p b.toNat := by
  unfold rs
  rw [dl_extract, show s.size = (dl s).length from size_list s, List.take_length]
  exact drop_idx (fun b => p b.toNat) (dl s)
theorem tk_dl (p : Nat → Bool) (s : ByteArray) : dl (tk p s) = (dl s).takeWhile fun b => p b.toNat := by
  unfold tk
  rw [dl_extract, List.drop_zero]
  exact take_idx (fun b => p b.toNat) (dl s)
theorem tl1_dl (s : ByteArray) : dl (tl1 s) = (dl s).tail := by
  unfold tl1
  rw [dl_extract, show s.size = (dl s).length from size_list s, List.take_length, List.drop_one]
def U (u : ByteArray) : Prop := dl u = [] ∨ ∃ t, dl u = 10 :: t
theorem dropWhile_app {p : UInt8 → Bool} (hp : p 10 = false) {u : List UInt8} (hu : u = [] ∨ ∃ t, u = 10 :: t) : ∀ l : List UInt8, (l ++ u).dropWhile p = l.dropWhile p ++ u ∧ (l ++ u).takeWhile p = l.takeWhile p
  | [] => by
    rcases hu with rfl | ⟨t, rfl⟩
    · exact ⟨rfl, rfl⟩
    · simp [List.dropWhile_cons, List.takeWhile_cons, hp]
  | b :: r => by
    obtain ⟨h1, h2⟩ := dropWhile_app hp hu r
    rw [List.cons_append, List.dropWhile_cons, List.takeWhile_cons, List.dropWhile_cons, List.takeWhile_cons]
    cases p b
    · exact ⟨rfl, rfl⟩
    · simp only [if_true]; exact ⟨h1, by rw [h2]⟩
theorem rs_app {p : Nat → Bool} (hp : p 10 = false) {u : ByteArray} (hu : U u) (s : ByteArray) : rs p (s ++ u) = rs p s ++ u ∧ tk p (s ++ u) = tk p s := by
  obtain ⟨h1, h2⟩ := dropWhile_app (p := fun b => p b.toNat) hp hu (dl s)
  exact ⟨ba_ext (by rw [rs_dl, dl_app, h1, dl_app, rs_dl]), ba_ext (by rw [tk_dl, dl_app, h2, tk_dl])⟩
theorem bt_dl (s : ByteArray) : bt s 0 = ((dl s).getD 0 0).toNat := rfl
theorem bt_app {s : ByteArray} (u : ByteArray) (h : s.size ≠ 0) : bt (s ++ u) 0 = bt s 0 := by
  rw [bt_dl, bt_dl, dl_app]
  rw [size_list] at h
  revert h
  show (dl s).length ≠ 0 → _
  cases dl s with
  | nil => intro h; exact absurd rfl h
  | cons b r => intro _; rfl
theorem tl1_app {s : ByteArray} (u : ByteArray) (h : s.size ≠ 0) : tl1 (s ++ u) = tl1 s ++ u := by
  apply ba_ext
  rw [tl1_dl, dl_app, dl_app, tl1_dl]
  rw [size_list] at h
  revert h
  show (dl s).length ≠ 0 → _
  cases dl s with
  | nil => intro h; exact absurd rfl h
  | cons b r => intro _; rfl
theorem app_size (s u : ByteArray) : (s ++ u).size = s.size + u.size := by
  rw [size_list, size_list s, size_list u, show (s ++ u).data.toList = dl s ++ dl u from dl_app s u, List.length_append]
structure TokSim (u : ByteArray) (x y : Tok) : Prop where
  k : y.k = x.k
  t : y.t = x.t
  q : y.q = x.q
  e : y.e = x.e
  s : y.s = x.s ++ u
def badB (s : ByteArray) : Bool := decide (s.size ≠ 0) && (decide (bt s 0 = 34) || plB (bt s 0))
theorem bad_app {u : ByteArray} (hu : U u) {s : ByteArray} (h : badB s = false) : badB (s ++ u) = false := by
  by_cases h0 : s.size = 0
  · unfold badB
    have hs : dl s = [] := by rw [size_list] at h0; exact List.length_eq_zero_iff.1 h0
    rw [bt_dl, dl_app, hs, List.nil_append, app_size, h0]
    rcases hu with hu | ⟨t, hu⟩
    · rw [size_list, show u.data.toList = [] from hu]; rfl
    · rw [hu]; simp [plB, letB, digB, markB]
  · unfold badB at *
    rw [bt_app u h0, app_size, decide_eq_true (show s.size + u.size ≠ 0 by omega)]
    rw [decide_eq_true h0] at h
    exact h
theorem endT_eq (s : ByteArray) (n : Int) (w : ByteArray) (q : Bool) (a : Int) : endT s n w q a = bif decide (120 < w.size) then ⟨0, ⟨#[]⟩, false, a, 4, s, n⟩ else bif badB s then ⟨0, ⟨#[]⟩, false, a, 6, s, n⟩ else ⟨34, w, q, a, 0, s, n⟩ := rfl
theorem endT_sim {u : ByteArray} (hu : U u) {s : ByteArray} {n n' : Int} {w : ByteArray} {q : Bool} {a a' : Int} (h : (endT s n w q a).e = 0) : (endT s n w q a).k = 34 ∧ TokSim u (endT s n w q a) (endT (s ++ u) n' w q a') := by
  rw [endT_eq] at h ⊢
  rw [endT_eq]
  cases h1 : decide (120 < w.size)
  · cases h2 : badB s
    · rw [bad_app hu h2]
      exact ⟨rfl, rfl, rfl, rfl, rfl, rfl⟩
    · rw [h1, h2] at h; exact absurd (show (6 : Int) = 0 from h) (by decide)
  · rw [h1] at h; exact absurd (show (4 : Int) = 0 from h) (by decide)
theorem quotT_sim {u : ByteArray} (hu : U u) {s : ByteArray} {n n' : Int} {a a' : Int} (h0 : s.size ≠ 0) (h : (quotT s n a).e = 0) : (quotT s n a).k = 34 ∧ TokSim u (quotT s n a) (quotT (s ++ u) n' a') := by
  unfold quotT at h ⊢
  rw [tl1_app u h0]
  obtain ⟨g1, g2⟩ := rs_app (p := qB) rfl hu (tl1 s)
  rw [g1, g2]
  generalize rs qB (tl1 s) = R at *
  generalize tk qB (tl1 s) = W at *
  cases h1 : decide (R.size = 0)
  · have h1' : R.size ≠ 0 := by simpa using h1
    rw [h1, cond_false] at h
    rw [app_size, decide_eq_false (show ¬ R.size + u.size = 0 by omega), bt_app u h1', tl1_app u h1']
    cases h2 : !decide (bt R 0 = 34)
    · rw [h2, cond_false] at h
      exact endT_sim hu h
    · rw [h2] at h; exact absurd (show (5 : Int) = 0 from h) (by decide)
  · rw [h1] at h; exact absurd (show (6 : Int) = 0 from h) (by decide)
theorem tokT_sim {u : ByteArray} (hu : U u) {s : ByteArray} {n n' : Int} (h0 : s.size ≠ 0) (h : (tokT s n).e = 0) : (tokT s n).k ≠ 0 ∧ TokSim u (tokT s n) (tokT (s ++ u) n') := by
  unfold tokT at h ⊢
  rw [decide_eq_false h0, cond_false] at h
  rw [decide_eq_false h0, app_size, decide_eq_false (show ¬ s.size + u.size = 0 by omega), bt_app u h0, tl1_app u h0]
  simp only [cond_false]
  cases h1 : decide (bt s 0 = 59) || (decide (bt s 0 = 123) || decide (bt s 0 = 125))
  · rw [h1, cond_false] at h
    simp only [cond_false]
    cases h2 : decide (bt s 0 = 34)
    · rw [h2, cond_false] at h
      simp only [cond_false]
      cases h3 : plB (bt s 0)
      · rw [h3] at h; exact absurd (show (5 : Int) = 0 from h) (by decide)
      · rw [h3, cond_true] at h
        simp only [cond_true]
        obtain ⟨g1, g2⟩ := rs_app (p := plB) rfl hu s
        rw [g1, g2]
        obtain ⟨e1, e2⟩ := endT_sim hu (n' := n' + nlc (tk plB s)) (a' := n') h
        exact ⟨by rw [e1]; decide, e2⟩
    · rw [h2, cond_true] at h
      simp only [cond_true]
      obtain ⟨e1, e2⟩ := quotT_sim hu (n' := n') (a' := n') h0 h
      exact ⟨by rw [e1]; decide, e2⟩
  · refine ⟨?_, rfl, rfl, rfl, rfl, rfl⟩
    show (bt s 0 : Int) ≠ 0
    simp only [Bool.or_eq_true, decide_eq_true_eq] at h1
    omega
def wsk : Bool → List UInt8 → List UInt8
  | _, [] => []
  | false, c :: r => bif whB c.toNat then wsk false r else bif c == 35 then wsk true r else c :: r
  | true, c :: r => bif c == 10 then wsk false r else wsk true r
theorem wsk_app (t : List UInt8) : ∀ (l : List UInt8) (b : Bool), (wsk b l ≠ [] → wsk b (l ++ 10 :: t) = wsk b l ++ 10 :: t) ∧ (wsk b l = [] → wsk b (l ++ 10 :: t) = wsk false t)
  | [], b => by
    refine ⟨fun h => absurd (by cases b <;> rfl) h, fun _ => by cases b <;> rfl⟩
  | c :: r, false => by
    have i1 := wsk_app t r false
    have i2 := wsk_app t r true
    rw [List.cons_append, wsk, wsk]
    cases whB c.toNat
    · cases c == 35
      · exact ⟨fun _ => rfl, fun h => by cases h⟩
      · exact i2
    · exact i1
  | c :: r, true => by
    have i1 := wsk_app t r false
    have i2 := wsk_app t r true
    rw [List.cons_append, wsk, wsk]
    cases c == 10
    · exact i2
    · exact i1
theorem wsk_white : ∀ l : List UInt8, wsk false (l.dropWhile fun b => whB b.toNat) = wsk false l
  | [] => rfl
  | c :: r => by
    rw [List.dropWhile_cons]
    cases h : whB c.toNat
    · simp
    · simp only [if_true]; rw [wsk_white r, wsk, h]; rfl
theorem wsk_line : ∀ l : List UInt8, wsk false (l.dropWhile fun b => nlB b.toNat) = wsk true l
  | [] => rfl
  | c :: r => by
    rw [List.dropWhile_cons]
    cases h : nlB c.toNat
    · have h10 : c = 10 := by
        unfold nlB at h; simp at h
        exact UInt8.toNat.inj (by simpa using h)
      subst h10
      simp [wsk, whB]
    · have h10 : (c == 10) = false := by
        rw [beq_eq_false_iff_ne]; rintro rfl; simp [nlB] at h
      simp only [if_true]; rw [wsk_line r, wsk, h10]; rfl
theorem wsk_stop : ∀ (l : List UInt8), (∀ c r, l = c :: r → whB c.toNat = false ∧ c ≠ 35) → wsk false l = l
  | [], _ => rfl
  | c :: r, h => by
    obtain ⟨h1, h2⟩ := h c r rfl
    rw [wsk, h1, show (c == 35) = false by simpa using h2]; rfl
theorem dropWhile_head {p : UInt8 → Bool} : ∀ (l : List UInt8) (c : UInt8) (r : List UInt8), l.dropWhile p = c :: r → p c = false
  | [], c, r, h => by simp at h
  | b :: l, c, r, h => by
    rw [List.dropWhile_cons] at h
    cases hb : p b
    · rw [hb] at h; simp at h; rw [← h.1]; exact hb
    · rw [hb] at h; simp only [if_true] at h; exact dropWhile_head l c r h
theorem skipW_dl : ∀ (f : Nat) (s : ByteArray) (n : Int), s.size < f → dl (skipW f s n).1 = wsk false (dl s)
  | 0, s, n, h => by omega
  | f + 1, s, n, h => by
    have hsz := rs_size whB s
    have hdl := rs_dl whB s
    simp only [skipW]
    cases hq : hasQ (rs whB s) hash
    · show dl (rs whB s) = _
      rw [← wsk_white, ← hdl, wsk_stop]
      intro c r hc
      refine ⟨dropWhile_head (p := fun b => whB b.toNat) (dl s) c r (by rw [← hdl, hc]), fun hc35 => ?_⟩
      rw [hasQ_hash, bt_dl, hc, size_list, show (rs whB s).data.toList = c :: r from hc, hc35] at hq
      simp at hq
    · have g := hq
      rw [hasQ_hash, Bool.and_eq_true, decide_eq_true_eq, decide_eq_true_eq] at g
      have g1 : 1 ≤ spN nlB (rs whB s) := spN_pos g.1 (by rw [g.2]; rfl)
      have g2 := rs_size nlB (rs whB s)
      show dl (skipW f (rs nlB (rs whB s)) _).1 = _
      rw [skipW_dl f _ _ (by omega), rs_dl, wsk_line]
      have : wsk false (dl (rs whB s)) = wsk true (dl (rs whB s)) := by
        have h35 := g.2
        rw [bt_dl] at h35
        have hne := g.1
        rw [size_list] at hne
        revert h35 hne
        show _ → (dl (rs whB s)).length ≠ 0 → _
        cases dl (rs whB s) with
        | nil => intro _ h; exact absurd rfl h
        | cons c r =>
          intro h35 _
          have : c = 35 := UInt8.toNat.inj h35
          subst this
          rfl
      rw [← this, hdl, wsk_white]
theorem nextT_eq (s : ByteArray) (n : Int) : nextT s n = tokT (skipW (s.size + 1) s n).1 (skipW (s.size + 1) s n).2 := by unfold nextT; rfl
theorem size0 {s : ByteArray} : s.size = 0 ↔ dl s = [] := by rw [size_list]; exact List.length_eq_zero_iff
theorem app_nil {u : ByteArray} (h : dl u = []) (s : ByteArray) : s ++ u = s := ba_ext (by rw [dl_app, h, List.append_nil])
theorem tokT_zero {s : ByteArray} {n : Int} (h : s.size = 0) : tokT s n = ⟨0, ⟨#[]⟩, false, n, 0, s, n⟩ := by unfold tokT; rw [decide_eq_true h]; rfl
theorem nextT_sim {u : ByteArray} (hu : U u) {s : ByteArray} {n n' : Int} (h : (nextT s n).e = 0) (hk : (nextT s n).k ≠ 0 ∨ dl u = []) : TokSim u (nextT s n) (nextT (s ++ u) n') := by
  rw [nextT_eq] at h hk ⊢
  rw [nextT_eq]
  have d1 := skipW_dl (s.size + 1) s n (Nat.lt_succ_self _)
  have d2 := skipW_dl ((s ++ u).size + 1) (s ++ u) n' (Nat.lt_succ_self _)
  generalize (skipW (s.size + 1) s n).1 = S at *
  generalize (skipW (s.size + 1) s n).2 = N at *
  generalize (skipW ((s ++ u).size + 1) (s ++ u) n').1 = S' at *
  generalize (skipW ((s ++ u).size + 1) (s ++ u) n').2 = N' at *
  rcases hu' : dl u with _ | ⟨c, t⟩
  · have e : S' = S ++ u := ba_ext (by rw [d2, dl_app, dl_app, hu', List.append_nil, List.append_nil, d1])
    subst e
    by_cases h0 : S.size = 0
    · rw [tokT_zero h0, tokT_zero (by rw [app_nil hu']; exact h0)]
      exact ⟨rfl, rfl, rfl, rfl, rfl⟩
    · exact (tokT_sim hu h0 h).2
  · have hk : (tokT S N).k ≠ 0 := hk.resolve_right (by rw [hu']; simp)
    have h0 : S.size ≠ 0 := fun h0 => hk (by rw [tokT_zero h0])
    obtain ⟨t, ht⟩ := hu.resolve_left (by rw [hu']; simp)
    have e : S' = S ++ u := ba_ext (by
      rw [d2, dl_app, dl_app, ht, d1]
      exact (wsk_app t (dl s) false).1 (by rw [← d1]; exact fun e => h0 (size0.2 e)))
    subst e
    exact (tokT_sim hu h0 h).2
theorem nextT_end {s : ByteArray} {n n1 n' : Int} {u t : ByteArray} (hu : dl u = 10 :: dl t) (h : (nextT s n).e = 0) (hk : (nextT s n).k = 0) (ht : (nextT t n1).e = 0) : TokSim ⟨#[]⟩ (nextT t n1) (nextT (s ++ u) n') := by
  rw [nextT_eq] at h hk
  rw [nextT_eq t] at ht ⊢
  rw [nextT_eq]
  have d1 := skipW_dl (s.size + 1) s n (Nat.lt_succ_self _)
  have d2 := skipW_dl ((s ++ u).size + 1) (s ++ u) n' (Nat.lt_succ_self _)
  have d3 := skipW_dl (t.size + 1) t n1 (Nat.lt_succ_self _)
  generalize (skipW (s.size + 1) s n).1 = S at *
  generalize (skipW (s.size + 1) s n).2 = N at *
  generalize (skipW ((s ++ u).size + 1) (s ++ u) n').1 = S' at *
  generalize (skipW ((s ++ u).size + 1) (s ++ u) n').2 = N' at *
  generalize (skipW (t.size + 1) t n1).1 = S1 at *
  generalize (skipW (t.size + 1) t n1).2 = N1 at *
  have h0 : S.size = 0 := by
    by_cases h0 : S.size = 0
    · exact h0
    · exact absurd hk (tokT_sim (u := ⟨#[]⟩) (n' := N) (.inl rfl) h0 h).1
  have e : S' = S1 ++ ⟨#[]⟩ := ba_ext (by
    rw [d2, dl_app, hu, dl_app, d3]
    rw [(wsk_app (dl t) (dl s) false).2 (by rw [← d1]; exact size0.1 h0)]
    simp)
  subst e
  by_cases g0 : S1.size = 0
  · rw [tokT_zero g0, tokT_zero (by rw [app_nil rfl]; exact g0)]
    exact ⟨rfl, rfl, rfl, rfl, rfl⟩
  · exact (tokT_sim (.inl rfl) g0 ht).2
end Go.Proofs.Ytahiigfpikohgaa
end
