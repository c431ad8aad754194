import Derived.Test.YtahiigfpikohgaaZUo11
import Derived.Test.YtahiigfpikohgaaZUo7
import Derived.Test.YtahiigfpikohgaaZUo9
section
namespace Go.Proofs.Ytahiigfpikohgaa
open Go.VD
set_option linter.unusedVariables false
set_option linter.unusedSimpArgs false
set_option maxRecDepth 100000
structure Wd where
  t : ByteArray
  q : Bool
instance : Inhabited Wd := ⟨⟨.empty, false⟩⟩
inductive Itm where
  | mk (line : Int) (ws : List Wd) (bl : Bool) (ks : List Itm)
instance : Inhabited Itm := ⟨.mk 0 [] false []⟩
def Itm.line : Itm → Int | .mk l _ _ _ => l
def Itm.ws : Itm → List Wd | .mk _ w _ _ => w
def Itm.bl : Itm → Bool | .mk _ _ b _ => b
def Itm.ks : Itm → List Itm | .mk _ _ _ k => k
def wordsD : List Wd → List D
  | [] => []
  | w :: r => .v (.string w.t) :: .v (.bool w.q) :: wordsD r
mutual
def itemD : Itm → List D
  | .mk l ws b ks => [.v (.int .i64 l), .ro ws.length (wordsD ws), .v (.bool b), .ro ks.length (itemsD ks)]
def itemsD : List Itm → List D
  | [] => []
  | x :: r => itemD x ++ itemsD r
end
theorem itemD_eq (x : Itm) : itemD x = [.v (.int .i64 x.line), .ro x.ws.length (wordsD x.ws), .v (.bool x.bl), .ro x.ks.length (itemsD x.ks)] := by
  cases x; simp only [itemD, Itm.line, Itm.ws, Itm.bl, Itm.ks]
theorem wordsD_length : ∀ l : List Wd, (wordsD l).length = 2 * l.length
  | [] => rfl
  | w :: r => by simp only [wordsD, List.length_cons, wordsD_length r]; omega
theorem itemsD_length : ∀ l : List Itm, (itemsD l).length = 4 * l.length
  | [] => by simp [itemsD]
  | x :: r => by simp only [itemsD, itemD_eq, List.length_append, List.length_cons, List.length_nil, itemsD_length r]; omega
theorem wordsD_get : ∀ (l : List Wd) (i : Nat), i < l.length → (wordsD l).getD (i * 2) default = .v (.string (l.getD i default).t) ∧ (wordsD l).getD (i * 2 + 1) default = .v (.bool (l.getD i default).q)
  | [], i, h => by simp at h
  | w :: r, 0, h => by simp [wordsD]
  | w :: r, i + 1, h => by
    have := wordsD_get r i (by simpa using h)
    rw [show (i + 1) * 2 = i * 2 + 1 + 1 by omega, show i * 2 + 1 + 1 + 1 = i * 2 + 1 + 1 + 1 from rfl]
    simp only [wordsD, List.getD_cons_succ]
    exact this
theorem itemsD_get : ∀ (l : List Itm) (i : Nat), i < l.length → (itemsD l).getD (i * 4) default = .v (.int .i64 (l.getD i default).line) ∧
    (itemsD l).getD (i * 4 + 1) default = .ro (l.getD i default).ws.length (wordsD (l.getD i default).ws) ∧ (itemsD l).getD (i * 4 + 2) default = .v (.bool (l.getD i default).bl) ∧
    (itemsD l).getD (i * 4 + 3) default = .ro (l.getD i default).ks.length (itemsD (l.getD i default).ks)
  | [], i, h => by simp at h
  | x :: r, 0, h => by simp [itemsD, itemD_eq]
  | x :: r, i + 1, h => by
    have := itemsD_get r i (by simpa using h)
    rw [show (i + 1) * 4 = i * 4 + 1 + 1 + 1 + 1 by omega]
    simp only [itemsD, itemD_eq, List.cons_append, List.nil_append, List.getD_cons_succ]
    exact this
def unW : List D → List Wd
  | .v (.string t) :: .v (.bool q) :: r => ⟨t, q⟩ :: unW r
  | _ => []
theorem unW_wordsD : ∀ l : List Wd, unW (wordsD l) = l
  | [] => rfl
  | w :: r => by simp only [wordsD, unW, unW_wordsD r]
def unI : List D → List Itm
  | .v (.int _ n) :: .ro _ ws :: .v (.bool b) :: .ro _ ks :: r => .mk n (unW ws) b (unI ks) :: unI r
  | _ => []
termination_by l => SizeOf.sizeOf l
decreasing_by all_goals (simp; try omega)
mutual
theorem unI_item : ∀ (x : Itm) (r : List D), unI (itemD x ++ r) = x :: unI r
  | .mk l ws b ks, r => by
    simp only [itemD, List.cons_append, List.nil_append]
    rw [unI, unW_wordsD, unI_itemsD ks]
theorem unI_itemsD : ∀ l : List Itm, unI (itemsD l) = l
  | [] => by simp [itemsD, unI]
  | x :: r => by rw [itemsD, unI_item x (itemsD r), unI_itemsD r]
end
mutual
def hI : Itm → Nat
  | .mk _ _ _ ks => hL ks + 1
def hL : List Itm → Nat
  | [] => 0
  | x :: r => max (hI x) (hL r)
end
theorem hL_get : ∀ (l : List Itm) (i : Nat), i < l.length → hL (l.getD i default).ks < hL l
  | [], i, h => by simp at h
  | .mk a b c ks :: r, 0, h => by simp only [List.getD_cons_zero, Itm.ks, hL, hI]; omega
  | x :: r, i + 1, h => by
    have := hL_get r i (by simpa using h)
    simp only [List.getD_cons_succ, hL]; omega
mutual
def okI : Itm → Prop
  | .mk l ws _ ks => (ws.length ≤ maxLen ∧ ks.length ≤ maxLen) ∧ (∀ w ∈ ws, w.t.size ≤ maxLen) ∧ okL ks
def okL : List Itm → Prop
  | [] => True
  | x :: r => okI x ∧ okL r
end
theorem okL_get : ∀ (l : List Itm) (i : Nat), okL l → i < l.length → okI (l.getD i default)
  | [], i, _, h => by simp at h
  | x :: r, 0, ho, h => by simp only [okL] at ho; simpa using ho.1
  | x :: r, i + 1, ho, h => by
    simp only [okL] at ho
    simpa using okL_get r i ho.2 (by simpa using h)
theorem okI_parts {x : Itm} (h : okI x) : x.ws.length ≤ maxLen ∧ x.ks.length ≤ maxLen ∧ (∀ w ∈ x.ws, w.t.size ≤ maxLen) ∧ okL x.ks := by
  cases x; simp only [okI, Itm.ws, Itm.ks] at *; exact ⟨h.1.1, h.1.2, h.2.1, h.2.2⟩
theorem okW_get {ws : List Wd} (h : ∀ w ∈ ws, w.t.size ≤ maxLen) {i : Nat} (hi : i < ws.length) : (ws.getD i default).t.size ≤ maxLen := by
  rw [List.getD_eq_getElem?_getD, List.getElem?_eq_getElem hi]
  exact h _ (List.getElem_mem hi)
mutual
theorem itemD_nl : ∀ x : Itm, NamelessL (itemD x)
  | .mk l ws b ks => by
    simp only [itemD, NamelessL, Nameless, and_true, true_and]
    exact ⟨wordsD_nl ws, itemsD_nl ks⟩
theorem wordsD_nl : ∀ l : List Wd, NamelessL (wordsD l)
  | [] => by simp [wordsD, NamelessL]
  | w :: r => by simp only [wordsD, NamelessL, Nameless, true_and]; exact wordsD_nl r
theorem itemsD_nl : ∀ l : List Itm, NamelessL (itemsD l)
  | [] => by simp [itemsD, NamelessL]
  | x :: r => by rw [itemsD]; exact (itemD_nl x).append (itemsD_nl r)
end
theorem words_inv {cs : List D} (h : TC T 34 cs) : ∃ ws : List Wd, cs = [.ro ws.length (wordsD ws)] ∧ ws.length ≤ maxLen ∧ ∀ w ∈ ws, w.t.size ≤ maxLen := by
  obtain ⟨chunks, rfl, hl, hc⟩ := h.slice_inv T_34
  have : ∀ chunks : List (List D), (∀ c ∈ chunks, TC T 51 c) → ∃ ws : List Wd, chunks.length = ws.length ∧ chunks.flatten = wordsD ws ∧ ∀ w ∈ ws, w.t.size ≤ maxLen := by
    intro chunks
    induction chunks with
    | nil => intro _; exact ⟨[], rfl, rfl, by simp⟩
    | cons c r ih =>
      intro hc
      obtain ⟨ws, h1, h2, h3⟩ := ih fun c h => hc c (by simp [h])
      obtain ⟨p, r1, rfl, g1, p2, r2, rfl, g2, rfl⟩ := (hc c (by simp)).fields T_51
      obtain ⟨s, rfl, hs⟩ := g1.str_inv T_9
      obtain ⟨q, rfl⟩ := g2.bool_inv T_4
      refine ⟨⟨s, q⟩ :: ws, by simp [h1], by simp [wordsD, h2], fun w hw => ?_⟩
      rcases List.mem_cons.1 hw with rfl | hw
      · exact hs
      · exact h3 w hw
  obtain ⟨ws, h1, h2, h3⟩ := this chunks hc
  exact ⟨ws, by rw [h1, h2], by rw [← h1]; exact hl, h3⟩
theorem items_inv : ∀ (n : Nat) {cs : List D}, SizeOf.sizeOf cs ≤ n → TC T 22 cs → ∃ l : List Itm, cs = [.ro l.length (itemsD l)] ∧ l.length ≤ maxLen ∧ okL l := by
  intro n
  induction n with
  | zero => intro cs hn; cases cs <;> simp at hn
  | succ n ih =>
    intro cs hn h
    obtain ⟨chunks, rfl, hl, hc⟩ := h.slice_inv T_22
    have hsz : SizeOf.sizeOf chunks.flatten ≤ n := by simp at hn; omega
    have : ∀ chunks : List (List D), SizeOf.sizeOf chunks.flatten ≤ n → (∀ c ∈ chunks, TC T 36 c) → ∃ l : List Itm, chunks.length = l.length ∧ chunks.flatten = itemsD l ∧ okL l := by
      intro chunks
      induction chunks with
      | nil => intro _ _; exact ⟨[], rfl, by simp [itemsD], by simp [okL]⟩
      | cons c r ihr =>
        intro hs hc
        obtain ⟨p1, r1, rfl, g1, p2, r2, rfl, g2, p3, r3, rfl, g3, p4, r4, rfl, g4, rfl⟩ := (hc c (by simp)).fields T_36
        obtain ⟨k, rfl, _⟩ := g1.int_inv T_3
        obtain ⟨ws, rfl, hw1, hw2⟩ := words_inv g2
        obtain ⟨b, rfl⟩ := g3.bool_inv T_4
        obtain ⟨ch4, rfl, hl4, hc4⟩ := g4.slice_inv T_22
        simp only [List.flatten_cons, List.cons_append, List.nil_append, List.cons.sizeOf_spec, List.append_nil] at hs
        obtain ⟨l, h1, h2, h3⟩ := ihr (by omega) fun c h => hc c (by simp [h])
        obtain ⟨ks, hk, hk1, hk2⟩ := ih (cs := [.ro ch4.length ch4.flatten]) (by simp; simp at hs; omega) (.slice T_22 ch4 hl4 hc4)
        simp only [List.cons.injEq, D.ro.injEq, and_true] at hk
        refine ⟨.mk k ws b ks :: l, by simp [h1], ?_, ?_⟩
        · simp only [List.flatten_cons, List.cons_append, List.nil_append, itemsD, itemD, h2, hk.1, hk.2]
        · simp only [okL, okI]; exact ⟨⟨⟨hw1, hk1⟩, hw2, hk2⟩, h3⟩
    obtain ⟨l, h1, h2, h3⟩ := this chunks hsz hc
    exact ⟨l, by rw [h1, h2], by rw [← h1]; exact hl, h3⟩
theorem targ_items {d : D} (hd : ∃ ti cs, T 22 = some ti ∧ TC T 22 cs ∧ d = (if ti.td.isAgg then .agg cs else cs.headD default)) : ∃ l : List Itm, d = .ro l.length (itemsD l) ∧ l.length ≤ maxLen ∧ okL l := by
  obtain ⟨ti, cs, h1, h2, h3⟩ := hd
  rw [T_22] at h1; injection h1 with h1; subst h1
  obtain ⟨l, rfl, h4, h5⟩ := items_inv _ (Nat.le_refl _) h2
  exact ⟨l, h3, h4, h5⟩
theorem any_no {α : Type} [Inhabited α] {f : α → Bool} : ∀ {l : List α}, (∀ j, j < l.length → f (l.getD j default) = false) → l.any f = false
  | [], _ => rfl
  | x :: r, h => by
    rw [List.any_cons, show f x = false from by simpa using h 0 (by simp), any_no (l := r) fun j hj => by simpa using h (j + 1) (by simpa using hj)]; rfl
theorem any_yes {α : Type} [Inhabited α] {f : α → Bool} : ∀ {l : List α} (j : Nat), j < l.length → f (l.getD j default) = true → l.any f = true
  | [], j, h, _ => by simp at h
  | x :: r, 0, _, h => by rw [List.any_cons, show f x = true from by simpa using h]; rfl
  | x :: r, j + 1, hj, h => by rw [List.any_cons, any_yes (l := r) j (by simpa using hj) (by simpa using h), Bool.or_true]
theorem getD_take {α : Type} [Inhabited α] (l : List α) {i : Nat} (h : i < l.length) : l.take (i + 1) = l.take i ++ [l.getD i default] := by
  rw [List.take_add_one, List.getElem?_eq_getElem h, List.getD_eq_getElem?_getD, List.getElem?_eq_getElem h]; rfl
end Go.Proofs.Ytahiigfpikohgaa
end
section
namespace Go.Proofs.Ytahiigfpikohgaa
open Go.VD
set_option linter.unusedVariables false
set_option linter.unusedSimpArgs false
set_option maxRecDepth 100000
mutual
def deepI : Itm → Int → Bool
  | .mk _ _ _ ks, n => decide (n < 0) || deepL ks (n - 1)
def deepL : List Itm → Int → Bool
  | [], _ => false
  | x :: r, n => deepI x n || deepL r n
end
theorem deepI_eq (x : Itm) (n : Int) : deepI x n = (decide (n < 0) || deepL x.ks (n - 1)) := by cases x; simp only [deepI, Itm.ks]
theorem deepL_any (n : Int) : ∀ l : List Itm, deepL l n = l.any fun x => deepI x n
  | [] => by simp [deepL]
  | x :: r => by rw [deepL, List.any_cons, deepL_any n r]
def DeepIH (h : Nat) : Prop := ∀ (l : List Itm) (n : Int), hL l < h → okL l → l.length ≤ maxLen → -1 ≤ n → n ≤ 100 → PureJ Try.prog 7 [.ro l.length (itemsD l), .v (.int .i64 n)] (.v (.bool (deepL l n)))
def ent_deepR (h : Nat) : Ent := fun ds => match ds with
  | [.ro k ys, .v (.int .i64 n)] => some (.v (.bool (deepL (unI ys) n)), (ys = itemsD (unI ys) ∧ k = (unI ys).length) ∧ hL (unI ys) < h ∧ okL (unI ys) ∧ (unI ys).length ≤ maxLen ∧ -1 ≤ n ∧ n ≤ 100)
  | _ => none
theorem ent_deepR_ok (h : Nat) (ih : DeepIH h) : EntOk Try.prog 7 (ent_deepR h) := by
  intro ds d c hd hc; unfold ent_deepR at hd; split at hd
  · rename_i k ys n
    obtain ⟨rfl, rfl⟩ := pair_inj hd
    obtain ⟨⟨h1, h2⟩, h3, h4, h5, h6, h7⟩ := hc
    generalize unI ys = l at *
    subst h1; subst h2
    exact ih l n h3 h4 h5 h6 h7
  · cases hd
def lp_deepLoop (l : List Itm) (n : Int) (h : Nat) : LoopO := loopRule2 (α := Nat) (β := Unit) (γ := Unit) [] (fun i => i ≤ l.length ∧ ∀ j, j < i → deepI (l.getD j default) n = false) (fun i => [(0, .ro l.length (itemsD l)), (1, .v (.int .i64 n)), (5, .v (.int .i64 (i : Int)))]) (fun _ => []) (0) (fun _ => deepL l n = false) (fun _ => (.exit 0, [(0, .ro l.length (itemsD l))], [])) (fun _ => deepL l n = true) (fun _ => (.ret, [(4, .v (.bool true))], []))
theorem deepLoop_rule (l : List Itm) (n : Int) (h : Nat) (hpre : DeepIH h ∧ hL l ≤ h ∧ okL l ∧ l.length ≤ maxLen ∧ -1 ≤ n ∧ n ≤ 100) : LRuleP Try.prog Try.f7.ntmps (loopAt ((Try.f7.body).getD .skip) 2) (lp_deepLoop l n h) := by
  refine lrule_of2 (α := Nat) (β := Unit) (γ := Unit) (call := (addPure 7 (ent_deepR h) noCalls)) (lp := fun _ => none) (N := 10) T_ok mixed (addPure_ok (ent_deepR_ok h hpre.1) noCalls_ok) (fun i => l.length - i) (by kernel_rfl) (LpAllP.none _) ?_
  intro x hJ
  refine of_eq (B := letI z9 := ((x : Nat) : Int); letI z15 := (((Int.toNat z9) * (4 : Nat)) + (3 : Nat)); letI z0 := (List.getD (itemsD l) z15 (Inhabited.default)); letI z6 := (Exit.exit (0 : Nat)); letI z11 := List.length l; letI z3 := (Prod.mk (0 : Nat) (D.ro z11 (itemsD l))); letI z4 := ([] : List (Option Blk)); letI z1 := (Prod.mk z6 (Prod.mk [z3] z4)); letI z7 := (Prod.mk (4 : Nat) (D.v (Value.bool Bool.true))); letI z2 := (Prod.mk Exit.ret (Prod.mk [z7] z4)); letI z5 := (List (Option Nat)); letI z8 := (IntKind.wrap IntKind.i64 (n - (1 : Int))); letI z10 := (unI (cellL z0)); letI z12 := (Prod.mk (1 : Nat) (D.v (Value.int IntKind.i64 n))); letI z13 := ((deepL l n) = Bool.false); letI z14 := ((deepL l n) = Bool.true); letI z16 := Exit.ret = Exit.ret; letI z17 := ((z11 : Nat) : Int); (True ∧ (True ∧ (True ∧ (True ∧ (pcond (Decidable.decide (z9 < z17)) (True ∧ (True ∧ (True ∧ (pcond (Decidable.decide (n < (0 : Int))) (True ∧ (True ∧ ((∃ (r : Unit), (∃ (kp : z5), (z13 ∧ ((Exit.ret = z6) ∧ (viewAll kp [z3] z4 (Prod.fst (Prod.snd ((fun (x_1 : Unit) => z1) r))) (Prod.snd (Prod.snd ((fun (x_1 : Unit) => z1) r)))))))) ∨ (∃ (r : Unit), (∃ (kp : z5), (z14 ∧ (z16 ∧ (viewAll kp [z7] z4 (Prod.fst (Prod.snd ((fun (x_1 : Unit) => z2) r))) (Prod.snd (Prod.snd ((fun (x_1 : Unit) => z2) r))))))))))) (True ∧ (True ∧ ((((0 : Int) ≤ z9) ∧ (z9 < z17)) ∧ (True ∧ (((z15 < (List.length (itemsD l))) ∧ (IsSl z0)) ∧ (True ∧ (True ∧ (((((cellL z0) = (itemsD z10)) ∧ ((cellN z0) = (List.length z10))) ∧ (((hL z10) < h) ∧ ((okL z10) ∧ (((List.length z10) ≤ (9223372036854775807 : Nat)) ∧ (((-(1 : Int)) ≤ z8) ∧ (z8 ≤ (100 : Int))))))) ∧ (True ∧ (pcond (deepL z10 z8) (True ∧ ((∃ (r : Unit), (∃ (kp : z5), (z13 ∧ ((Exit.ret = z6) ∧ (viewAll kp [z3] z4 (Prod.fst (Prod.snd ((fun (x_1 : Unit) => z1) r))) (Prod.snd (Prod.snd ((fun (x_1 : Unit) => z1) r)))))))) ∨ (∃ (r : Unit), (∃ (kp : z5), (z14 ∧ (z16 ∧ (viewAll kp [z7] z4 (Prod.fst (Prod.snd ((fun (x_1 : Unit) => z2) r))) (Prod.snd (Prod.snd ((fun (x_1 : Unit) => z2) r)))))))))) (True ∧ (True ∧ (True ∧ (∃ (y : Nat), (∃ (kp : z5), (((z11 - y) < (z11 - x)) ∧ (((y ≤ z11) ∧ (∀ (j : Nat), ((j < y) → ((deepI (List.getD l j (Inhabited.default)) n) = Bool.false)))) ∧ (viewAll kp [z3, z12, (Prod.mk (5 : Nat) (D.v (Value.int IntKind.i64 (IntKind.wrap IntKind.i64 (z9 + (1 : Int))))))] z4 [z3, z12, (Prod.mk (5 : Nat) (D.v (Value.int IntKind.i64 ((y : Nat) : Int))))] z4)))))))))))))))))))))) ((∃ (r : Unit), (∃ (kp : z5), (z13 ∧ ((z6 = z6) ∧ (viewAll kp [z3] z4 (Prod.fst (Prod.snd ((fun (x_1 : Unit) => z1) r))) (Prod.snd (Prod.snd ((fun (x_1 : Unit) => z1) r)))))))) ∨ (∃ (r : Unit), (∃ (kp : z5), (z14 ∧ ((z6 = Exit.ret) ∧ (viewAll kp ([] : List (Prod Nat D)) z4 (Prod.fst (Prod.snd ((fun (x_1 : Unit) => z2) r))) (Prod.snd (Prod.snd ((fun (x_1 : Unit) => z2) r))))))))))))))) (by kernel_rfl) ?_
  simp only [true_and, and_true, and_self, IsInt_lit, IsBool_lit, IsStr_lit, IsSl_lit, cellN_lit, cellL_lit, Bool.not_eq_true', Bool.not_eq_false', Bool.not_true, Bool.not_false, Int.reduceLE, Int.reduceLT, Int.reduceNeg, Nat.le_refl, Int.le_refl, Nat.reduceLT, Nat.reduceLeDiff, Nat.reduceEqDiff, D.v.injEq, D.tup.injEq, D.agg.injEq, D.ro.injEq, List.cons.injEq, Value.int.injEq, Value.bool.injEq, pcond_true, pcond_false, NamelessL, Nameless, Nat.reduceMul, Nat.reduceAdd, Nat.zero_add, Int.toNat_natCast] at *
  obtain ⟨ih, hh, ho, hlm, hn1, hn2⟩ := hpre
  obtain ⟨hx, hall⟩ := hJ
  simp only [maxLen] at hlm
  refine pcond_intro (fun h1 => ?_) (fun h1 => ?_)
  · simp only [decide_eq_true_eq] at h1
    have hxl : x < l.length := by omega
    obtain ⟨g0, g1, g2, g3⟩ := itemsD_get l x hxl
    have hlen := itemsD_length l
    obtain ⟨o1, o2, o3, o4⟩ := okI_parts (okL_get l x ho hxl)
    have hlt := hL_get l x hxl
    have hw : IntKind.i64.wrap (n - 1) = n - 1 := wrap_i64_of (by omega) (by omega)
    have hi : IntKind.i64.wrap ((x : Int) + 1) = ((x + 1 : Nat) : Int) := by rw [wrap_i64_of (by omega) (by omega)]; omega
    have yes : deepI (l.getD x default) n = true → deepL l n = true := fun e => by rw [deepL_any]; exact any_yes x hxl e
    refine pcond_intro (fun h2 => .inr ⟨(), [], yes (by rw [deepI_eq, h2]; rfl), ?_⟩) (fun h2 => ?_)
    · refine of_eq (B := letI z0 := (D.v (Value.bool Bool.true)); letI z1 := ([] : List (Option Blk)); ((Bool.true = Bool.true) ∧ ((z1 = z1) ∧ ((True ∧ (z0 = z0)) ∧ True)))) (by kernel_rfl) ?_; simp
    · simp only [decide_eq_false_iff_not] at h2
      simp only [g3, cellN_lit, cellL_lit, IsSl_lit, unI_itemsD, hw, hi]
      refine ⟨by omega, ⟨by omega, trivial⟩, ⟨⟨trivial, trivial⟩, by omega, o4, by simpa [maxLen] using o2, by omega, by omega⟩, pcond_intro (fun h3 => .inr ⟨(), [], yes (by rw [deepI_eq, h3, Bool.or_true]), ?_⟩) (fun h3 => ⟨x + 1, [], by omega, ⟨by omega, fun j hj => ?_⟩, ?_⟩)⟩
      · refine of_eq (B := letI z0 := (D.v (Value.bool Bool.true)); letI z1 := ([] : List (Option Blk)); ((Bool.true = Bool.true) ∧ ((z1 = z1) ∧ ((True ∧ (z0 = z0)) ∧ True)))) (by kernel_rfl) ?_; simp
      · rcases Nat.lt_succ_iff_lt_or_eq.1 hj with h | rfl
        · exact hall j h
        · rw [deepI_eq, h3, decide_eq_false (show ¬ n < 0 by omega)]; rfl
      · refine of_eq (B := letI z0 := (D.v (Value.int IntKind.i64 (((x + (1 : Nat)) : Nat) : Int))); letI z1 := (D.ro (List.length l) (itemsD l)); letI z2 := (D.v (Value.int IntKind.i64 n)); letI z3 := ([] : List (Option Blk)); ((Bool.true = Bool.true) ∧ ((z3 = z3) ∧ ((True ∧ (z1 = z1)) ∧ ((True ∧ (z2 = z2)) ∧ ((True ∧ (z0 = z0)) ∧ True)))))) (by kernel_rfl) ?_; simp
  · simp only [decide_eq_false_iff_not] at h1
    refine .inl ⟨(), [], ?_, ?_⟩
    · rw [deepL_any]; exact any_no fun j hj => hall j (by omega)
    · refine of_eq (B := letI z0 := (D.ro (List.length l) (itemsD l)); letI z1 := ([] : List (Option Blk)); ((Bool.true = Bool.true) ∧ ((z1 = z1) ∧ ((True ∧ (z0 = z0)) ∧ True)))) (by kernel_rfl) ?_; simp
theorem deep_pure (l : List Itm) (n : Int) (h : Nat) (hpre : DeepIH h ∧ hL l ≤ h ∧ okL l ∧ l.length ≤ maxLen ∧ -1 ≤ n ∧ n ≤ 100) : PureJ Try.prog 7 [.ro l.length (itemsD l), .v (.int .i64 n)] (.v (.bool (deepL l n))) := by
  refine pureJ_of_vcp (call := noCalls) (lp := fun k => bif Nat.beq k 2 then some (lp_deepLoop l n h) else none) (N := 10) T_ok mixed noCalls_ok Try.func7 rfl (by decide) (by kernel_rfl) (by kernel_rfl) (of_eq (B := LRuleP Try.prog Try.f7.ntmps (loopAt ((Try.f7.body).getD .skip) 2) (lp_deepLoop l n h) ∧ True) (by kernel_rfl) ⟨deepLoop_rule l n h hpre, trivial⟩) (by first | exact ⟨itemsD_nl l, trivial, trivial⟩ | trivial | simp [NamelessL, Nameless]) (by first | exact ⟨itemsD_nl l, trivial, trivial⟩ | trivial | simp [NamelessL, Nameless]) ?_
  refine of_eq (B := letI z0 := (D.v (Value.int IntKind.i64 (0 : Int))); letI z1 := (D.ro (List.length l) (itemsD l)); letI z2 := (D.v (Value.int IntKind.i64 n)); letI z3 := (D.v (Value.bool (deepL l n))); letI z4 := ([] : List (Option Blk)); (True ∧ (True ∧ ((((0 : Nat) ≤ (List.length l)) ∧ (∀ (j : Nat), ((j < (0 : Nat)) → ((deepI (List.getD l j (Inhabited.default)) n) = Bool.false)))) ∧ (((Bool.true = Bool.true) ∧ ((z4 = z4) ∧ ((True ∧ (z1 = z1)) ∧ ((True ∧ (z2 = z2)) ∧ ((True ∧ (z0 = z0)) ∧ True))))) ∧ ((Unit → (((deepL l n) = Bool.false) → (True ∧ (True ∧ (True ∧ ((D.v (Value.bool Bool.false)) = z3)))))) ∧ (Unit → (((deepL l n) = Bool.true) → (True ∧ (True ∧ ((D.v (Value.bool Bool.true)) = z3))))))))))) (by kernel_rfl) ?_
  simp only [true_and, and_true, and_self, IsInt_lit, IsBool_lit, IsStr_lit, IsSl_lit, cellN_lit, cellL_lit, Bool.not_eq_true', Bool.not_eq_false', Bool.not_true, Bool.not_false, Int.reduceLE, Int.reduceLT, Int.reduceNeg, Nat.le_refl, Int.le_refl, Nat.reduceLT, Nat.reduceLeDiff, Nat.reduceEqDiff, D.v.injEq, D.tup.injEq, D.agg.injEq, D.ro.injEq, List.cons.injEq, Value.int.injEq, Value.bool.injEq, pcond_true, pcond_false, NamelessL, Nameless, Nat.reduceMul, Nat.reduceAdd, Nat.zero_add, Int.toNat_natCast]
  refine ⟨⟨Nat.zero_le _, fun j hj => absurd hj (Nat.not_lt_zero _)⟩, fun _ h => h.symm, fun _ h => h.symm⟩
theorem deep_all : ∀ h, DeepIH h := by
  intro h
  induction h with
  | zero => intro l n hl; omega
  | succ h ih => intro l n h1 h2 h3 h4 h5; exact deep_pure l n h ⟨ih, by omega, h2, h3, h4, h5⟩
theorem ent_deep_ok (h : Nat) : EntOk Try.prog 7 (ent_deepR h) := ent_deepR_ok h (deep_all h)
end Go.Proofs.Ytahiigfpikohgaa
end
section
namespace Go.Proofs.Ytahiigfpikohgaa
open Go.VD
set_option linter.unusedVariables false
set_option linter.unusedSimpArgs false
set_option maxRecDepth 100000
mutual
def cntI : Itm → Int
  | .mk _ _ _ ks => cntA ks ks.length
def cntA : List Itm → Int → Int
  | [], n => n
  | x :: r, n => cntA r (IntKind.i64.wrap (n + cntI x))
end
def cntL (l : List Itm) : Int := cntA l l.length
theorem cntI_eq (x : Itm) : cntI x = cntL x.ks := by cases x; simp only [cntI, cntL, Itm.ks]
theorem cntA_app : ∀ (l : List Itm) (x : Itm) (n : Int), cntA (l ++ [x]) n = IntKind.i64.wrap (cntA l n + cntI x)
  | [], x, n => by simp [cntA]
  | y :: r, x, n => by rw [List.cons_append, cntA, cntA, cntA_app r x]
def cntP (l : List Itm) (i : Nat) : Int := cntA (l.take i) l.length
theorem cntP_succ (l : List Itm) {i : Nat} (h : i < l.length) : cntP l (i + 1) = IntKind.i64.wrap (cntP l i + cntL (l.getD i default).ks) := by
  unfold cntP; rw [getD_take l h, cntA_app, cntI_eq]
theorem cntP_all (l : List Itm) : cntP l l.length = cntL l := by unfold cntP cntL; rw [List.take_length]
theorem cntP_zero (l : List Itm) : cntP l 0 = (l.length : Int) := by simp [cntP, cntA]
def CntIH (f : FuncId) (h : Nat) : Prop := ∀ l : List Itm, hL l < h → okL l → l.length ≤ maxLen → PureJ Try.prog f [.ro l.length (itemsD l)] (.v (.int .i64 (cntL l)))
def ent_cntR (h : Nat) : Ent := fun ds => match ds with
  | [.ro k ys] => some (.v (.int .i64 (cntL (unI ys))), (ys = itemsD (unI ys) ∧ k = (unI ys).length) ∧ hL (unI ys) < h ∧ okL (unI ys) ∧ (unI ys).length ≤ maxLen)
  | _ => none
theorem ent_cntR_ok0 (f : FuncId) (h : Nat) (ih : CntIH f h) : EntOk Try.prog f (ent_cntR h) := by
  intro ds d c hd hc; unfold ent_cntR at hd; split at hd
  · rename_i k ys
    obtain ⟨rfl, rfl⟩ := pair_inj hd
    obtain ⟨⟨h1, h2⟩, h3, h4, h5⟩ := hc
    generalize unI ys = l at *
    subst h1; subst h2
    exact ih l h3 h4 h5
  · cases hd
theorem ent_cntR_ok (h : Nat) (ih : CntIH 12 h) : EntOk Try.prog 12 (ent_cntR h) := ent_cntR_ok0 _ h ih
def lp_cntLoop (l : List Itm) (h : Nat) : LoopO := loopRule (α := Nat) (β := Unit) [] (fun i => i ≤ l.length) (fun i => [(8, .ro l.length (itemsD l)), (9, .v (.int .i64 (l.length : Int))), (3, .v (.int .i64 (cntP l i))), (10, .v (.int .i64 (i : Int)))]) (fun _ => []) (0) (fun _ => True) (fun _ => (.exit 0, [(3, .v (.int .i64 (cntL l)))], []))
theorem cntLoop_rule (l : List Itm) (h : Nat) (hpre : CntIH 12 h ∧ hL l ≤ h ∧ okL l ∧ l.length ≤ maxLen) : LRuleP Try.prog Try.f12.ntmps (loopAt ((Try.f12.body).getD .skip) 3) (lp_cntLoop l h) := by
  refine lrule_of (α := Nat) (β := Unit) (call := (addPure 12 (ent_cntR h) noCalls)) (lp := fun _ => none) (N := 10) T_ok mixed (addPure_ok (ent_cntR_ok h hpre.1) noCalls_ok) (fun i => l.length - i) (by kernel_rfl) (LpAllP.none _) ?_
  intro x hJ
  refine of_eq (B := letI z8 := ((x : Nat) : Int); letI z1 := ((Int.toNat z8) * (4 : Nat)); letI z14 := ((z1 + (1 : Nat)) + (1 : Nat)); letI z0 := (List.getD (itemsD l) (z14 + (1 : Nat)) (Inhabited.default)); letI z12 := (Exit.exit (0 : Nat)); letI z10 := ([] : List (Option Blk)); letI z2 := (Prod.mk z12 (Prod.mk [(Prod.mk (3 : Nat) (D.v (Value.int IntKind.i64 (cntL l))))] z10)); letI z3 := (List.getD (itemsD l) (z1 + (1 : Nat)) (Inhabited.default)); letI z4 := List.length l; letI z5 := (List.getD (itemsD l) z14 (Inhabited.default)); letI z6 := (unI (cellL z0)); letI z13 := ((z4 : Nat) : Int); letI z7 := (Prod.mk (9 : Nat) (D.v (Value.int IntKind.i64 z13))); letI z9 := (List.getD (itemsD l) z1 (Inhabited.default)); letI z11 := (Prod.mk (8 : Nat) (D.ro z4 (itemsD l))); letI z15 := (List (Option Nat)); (True ∧ (pcond (Decidable.decide (z8 < z13)) ((((0 : Int) ≤ z8) ∧ (z8 < z13)) ∧ ((((z1 + (4 : Nat)) ≤ (List.length (itemsD l))) ∧ ((IsInt IntKind.i64 z9) ∧ ((IsSl z3) ∧ ((IsBool z5) ∧ ((IsSl z0) ∧ True))))) ∧ (True ∧ ((((4 : Nat) = (4 : Nat)) ∧ ((4 : Nat) ≤ (4 : Nat))) ∧ (True ∧ (True ∧ (((3 : Nat) < (4 : Nat)) ∧ (((((cellL z0) = (itemsD z6)) ∧ ((cellN z0) = (List.length z6))) ∧ (((hL z6) < h) ∧ ((okL z6) ∧ ((List.length z6) ≤ (9223372036854775807 : Nat))))) ∧ (True ∧ (True ∧ (True ∧ (True ∧ (∃ (y : Nat), (∃ (kp : z15), (((z4 - y) < (z4 - x)) ∧ ((y ≤ z4) ∧ (viewAll kp [z11, z7, (Prod.mk (3 : Nat) (D.v (Value.int IntKind.i64 (IntKind.wrap IntKind.i64 ((cntP l x) + (cntL z6)))))), (Prod.mk (10 : Nat) (D.v (Value.int IntKind.i64 (IntKind.wrap IntKind.i64 (z8 + (1 : Int))))))] [(Option.some (Blk.mk (36 : Nat) [(D.v (Value.int IntKind.i64 (cellInt z9))), (D.ro (cellN z3) (cellL z3)), (D.v (Value.bool (cellBool z5))), (D.ro (cellN z0) (cellL z0))] Bool.true))] [z11, z7, (Prod.mk (3 : Nat) (D.v (Value.int IntKind.i64 (cntP l y)))), (Prod.mk (10 : Nat) (D.v (Value.int IntKind.i64 ((y : Nat) : Int))))] z10))))))))))))))))) (∃ (r : Unit), (∃ (kp : z15), (True ∧ ((z12 = z12) ∧ (viewAll kp [(Prod.mk (3 : Nat) (D.v (Value.int IntKind.i64 (cntP l x))))] z10 (Prod.fst (Prod.snd ((fun (x_1 : Unit) => z2) r))) (Prod.snd (Prod.snd ((fun (x_1 : Unit) => z2) r))))))))))) (by kernel_rfl) ?_
  simp only [true_and, and_true, and_self, IsInt_lit, IsBool_lit, IsStr_lit, IsSl_lit, cellN_lit, cellL_lit, Bool.not_eq_true', Bool.not_eq_false', Bool.not_true, Bool.not_false, Int.reduceLE, Int.reduceLT, Int.reduceNeg, Nat.le_refl, Int.le_refl, Nat.reduceLT, Nat.reduceLeDiff, Nat.reduceEqDiff, D.v.injEq, D.tup.injEq, D.agg.injEq, D.ro.injEq, List.cons.injEq, Value.int.injEq, Value.bool.injEq, pcond_true, pcond_false, NamelessL, Nameless, Nat.reduceMul, Nat.reduceAdd, Nat.zero_add, Int.toNat_natCast] at *
  obtain ⟨ih, hh, ho, hlm⟩ := hpre
  simp only [maxLen] at hlm
  refine pcond_intro (fun h1 => ?_) (fun h1 => ?_)
  · simp only [decide_eq_true_eq] at h1
    have hxl : x < l.length := by omega
    obtain ⟨g0, g1, g2, g3⟩ := itemsD_get l x hxl
    have hlen := itemsD_length l
    obtain ⟨o1, o2, o3, o4⟩ := okI_parts (okL_get l x ho hxl)
    have hlt := hL_get l x hxl
    have hi : IntKind.i64.wrap ((x : Int) + 1) = ((x + 1 : Nat) : Int) := by rw [wrap_i64_of (by omega) (by omega)]; omega
    simp only [g0, g1, g2, g3, cellN_lit, cellL_lit, cellInt_lit, cellBool_lit, IsSl_lit, IsInt_lit, IsBool_lit, unI_itemsD, hi, ← cntP_succ l hxl]
    refine ⟨by omega, ⟨by omega, trivial, trivial, trivial, trivial⟩, ⟨⟨trivial, trivial⟩, by omega, o4, by simpa [maxLen] using o2⟩, x + 1, [], by omega, by omega, ?_⟩
    refine of_eq (B := letI z0 := (D.v (Value.int IntKind.i64 (((List.length l) : Nat) : Int))); letI z1 := (D.v (Value.int IntKind.i64 (((x + (1 : Nat)) : Nat) : Int))); letI z2 := (D.v (Value.int IntKind.i64 (cntP l (x + (1 : Nat))))); letI z3 := (D.ro (List.length l) (itemsD l)); letI z4 := ([] : List (Option Blk)); ((Bool.true = Bool.true) ∧ ((z4 = z4) ∧ ((True ∧ (z3 = z3)) ∧ ((True ∧ (z0 = z0)) ∧ ((True ∧ (z2 = z2)) ∧ ((True ∧ (z1 = z1)) ∧ True))))))) (by kernel_rfl) ?_; simp
  · simp only [decide_eq_false_iff_not] at h1
    have e : x = l.length := by omega
    subst e
    rw [cntP_all]
    refine ⟨(), [], ?_⟩
    refine of_eq (B := letI z0 := (D.v (Value.int IntKind.i64 (cntL l))); letI z1 := ([] : List (Option Blk)); ((Bool.true = Bool.true) ∧ ((z1 = z1) ∧ ((True ∧ (z0 = z0)) ∧ True)))) (by kernel_rfl) ?_; simp
theorem cnt_pure (l : List Itm) (h : Nat) (hpre : CntIH 12 h ∧ hL l ≤ h ∧ okL l ∧ l.length ≤ maxLen) : PureJ Try.prog 12 [.ro l.length (itemsD l)] (.v (.int .i64 (cntL l))) := by
  refine pureJ_of_vcp (call := noCalls) (lp := fun k => bif Nat.beq k 3 then some (lp_cntLoop l h) else none) (N := 10) T_ok mixed noCalls_ok Try.func12 rfl (by decide) (by kernel_rfl) (by kernel_rfl) (of_eq (B := LRuleP Try.prog Try.f12.ntmps (loopAt ((Try.f12.body).getD .skip) 3) (lp_cntLoop l h) ∧ True) (by kernel_rfl) ⟨cntLoop_rule l h hpre, trivial⟩) (by first | exact ⟨itemsD_nl l, trivial⟩ | trivial | simp [NamelessL, Nameless]) (by first | exact ⟨itemsD_nl l, trivial⟩ | trivial | simp [NamelessL, Nameless]) ?_
  refine of_eq (B := letI z1 := List.length l; letI z0 := (D.v (Value.int IntKind.i64 ((z1 : Nat) : Int))); letI z2 := (D.v (Value.int IntKind.i64 (0 : Int))); letI z3 := (D.v (Value.int IntKind.i64 (cntL l))); letI z4 := ([] : List (Option Blk)); letI z5 := (D.ro z1 (itemsD l)); (True ∧ (True ∧ (True ∧ (True ∧ (True ∧ (True ∧ (True ∧ (((0 : Nat) ≤ z1) ∧ (((Bool.true = Bool.true) ∧ ((z4 = z4) ∧ ((True ∧ (z5 = z5)) ∧ ((True ∧ (z0 = z0)) ∧ ((True ∧ (z0 = (D.v (Value.int IntKind.i64 (cntP l (0 : Nat)))))) ∧ ((True ∧ (z2 = z2)) ∧ True)))))) ∧ (Unit → (True → (True ∧ (True ∧ (True ∧ (True ∧ (z3 = z3))))))))))))))))) (by kernel_rfl) ?_
  simp only [true_and, and_true, and_self, IsInt_lit, IsBool_lit, IsStr_lit, IsSl_lit, cellN_lit, cellL_lit, Bool.not_eq_true', Bool.not_eq_false', Bool.not_true, Bool.not_false, Int.reduceLE, Int.reduceLT, Int.reduceNeg, Nat.le_refl, Int.le_refl, Nat.reduceLT, Nat.reduceLeDiff, Nat.reduceEqDiff, D.v.injEq, D.tup.injEq, D.agg.injEq, D.ro.injEq, List.cons.injEq, Value.int.injEq, Value.bool.injEq, pcond_true, pcond_false, NamelessL, Nameless, Nat.reduceMul, Nat.reduceAdd, Nat.zero_add, Int.toNat_natCast, cntP_zero]
  simp
theorem cnt_all : ∀ h, CntIH 12 h := by
  intro h
  induction h with
  | zero => intro l hl; omega
  | succ h ih => intro l h1 h2 h3; exact cnt_pure l h ⟨ih, by omega, h2, h3⟩
def ent_cnt : Ent := fun ds => match ds with
  | [.ro k ys] => some (.v (.int .i64 (cntL (unI ys))), (ys = itemsD (unI ys) ∧ k = (unI ys).length) ∧ okL (unI ys) ∧ (unI ys).length ≤ maxLen)
  | _ => none
theorem ent_cnt_of (f : FuncId) (ha : ∀ h, CntIH f h) : EntOk Try.prog f ent_cnt := by
  intro ds d c hd hc; unfold ent_cnt at hd; split at hd
  · rename_i k ys
    obtain ⟨rfl, rfl⟩ := pair_inj hd
    obtain ⟨⟨h1, h2⟩, h4, h5⟩ := hc
    generalize unI ys = l at *
    subst h1; subst h2
    exact ha _ l (Nat.lt_succ_self _) h4 h5
  · cases hd
theorem ent_cnt_ok : EntOk Try.prog 12 ent_cnt := ent_cnt_of _ cnt_all
theorem ent_rcntR_ok (h : Nat) (ih : CntIH 13 h) : EntOk Try.prog 13 (ent_cntR h) := ent_cntR_ok0 _ h ih
def ent_rcntR := ent_cntR
def lp_rcntLoop (l : List Itm) (h : Nat) : LoopO := loopRule (α := Nat) (β := Unit) [] (fun i => i ≤ l.length) (fun i => [(0, .ro l.length (itemsD l)), (3, .v (.int .i64 (cntP l i))), (4, .v (.int .i64 (i : Int)))]) (fun _ => []) (0) (fun _ => True) (fun _ => (.exit 0, [(3, .v (.int .i64 (cntL l)))], []))
theorem rcntLoop_rule (l : List Itm) (h : Nat) (hpre : CntIH 13 h ∧ hL l ≤ h ∧ okL l ∧ l.length ≤ maxLen) : LRuleP Try.prog Try.f13.ntmps (loopAt ((Try.f13.body).getD .skip) 3) (lp_rcntLoop l h) := by
  refine lrule_of (α := Nat) (β := Unit) (call := (addPure 13 (ent_rcntR h) noCalls)) (lp := fun _ => none) (N := 10) T_ok mixed (addPure_ok (ent_rcntR_ok h hpre.1) noCalls_ok) (fun i => l.length - i) (by kernel_rfl) (LpAllP.none _) ?_
  intro x hJ
  refine of_eq (B := letI z3 := ((x : Nat) : Int); letI z6 := (((Int.toNat z3) * (4 : Nat)) + (3 : Nat)); letI z0 := (List.getD (itemsD l) z6 (Inhabited.default)); letI z8 := (Exit.exit (0 : Nat)); letI z5 := ([] : List (Option Blk)); letI z1 := (Prod.mk z8 (Prod.mk [(Prod.mk (3 : Nat) (D.v (Value.int IntKind.i64 (cntL l))))] z5)); letI z2 := List.length l; letI z4 := (unI (cellL z0)); letI z7 := (Prod.mk (0 : Nat) (D.ro z2 (itemsD l))); letI z9 := (List (Option Nat)); (True ∧ (True ∧ (True ∧ (True ∧ (pcond (Decidable.decide (z3 < ((z2 : Nat) : Int))) (True ∧ (True ∧ (True ∧ ((((0 : Int) ≤ z3) ∧ (z3 < ((z2 : Nat) : Int))) ∧ (True ∧ (((z6 < (List.length (itemsD l))) ∧ (IsSl z0)) ∧ (((((cellL z0) = (itemsD z4)) ∧ ((cellN z0) = (List.length z4))) ∧ (((hL z4) < h) ∧ ((okL z4) ∧ ((List.length z4) ≤ (9223372036854775807 : Nat))))) ∧ (True ∧ (True ∧ (True ∧ (True ∧ (True ∧ (∃ (y : Nat), (∃ (kp : z9), (((z2 - y) < (z2 - x)) ∧ ((y ≤ z2) ∧ (viewAll kp [z7, (Prod.mk (3 : Nat) (D.v (Value.int IntKind.i64 (IntKind.wrap IntKind.i64 ((cntP l x) + (cntL z4)))))), (Prod.mk (4 : Nat) (D.v (Value.int IntKind.i64 (IntKind.wrap IntKind.i64 (z3 + (1 : Int))))))] z5 [z7, (Prod.mk (3 : Nat) (D.v (Value.int IntKind.i64 (cntP l y)))), (Prod.mk (4 : Nat) (D.v (Value.int IntKind.i64 ((y : Nat) : Int))))] z5))))))))))))))))) (∃ (r : Unit), (∃ (kp : z9), (True ∧ ((z8 = z8) ∧ (viewAll kp [(Prod.mk (3 : Nat) (D.v (Value.int IntKind.i64 (cntP l x))))] z5 (Prod.fst (Prod.snd ((fun (x_1 : Unit) => z1) r))) (Prod.snd (Prod.snd ((fun (x_1 : Unit) => z1) r)))))))))))))) (by kernel_rfl) ?_
  simp only [true_and, and_true, and_self, IsInt_lit, IsBool_lit, IsStr_lit, IsSl_lit, cellN_lit, cellL_lit, Bool.not_eq_true', Bool.not_eq_false', Bool.not_true, Bool.not_false, Int.reduceLE, Int.reduceLT, Int.reduceNeg, Nat.le_refl, Int.le_refl, Nat.reduceLT, Nat.reduceLeDiff, Nat.reduceEqDiff, D.v.injEq, D.tup.injEq, D.agg.injEq, D.ro.injEq, List.cons.injEq, Value.int.injEq, Value.bool.injEq, pcond_true, pcond_false, NamelessL, Nameless, Nat.reduceMul, Nat.reduceAdd, Nat.zero_add, Int.toNat_natCast] at *
  obtain ⟨ih, hh, ho, hlm⟩ := hpre
  simp only [maxLen] at hlm
  refine pcond_intro (fun h1 => ?_) (fun h1 => ?_)
  · simp only [decide_eq_true_eq] at h1
    have hxl : x < l.length := by omega
    obtain ⟨g0, g1, g2, g3⟩ := itemsD_get l x hxl
    have hlen := itemsD_length l
    obtain ⟨o1, o2, o3, o4⟩ := okI_parts (okL_get l x ho hxl)
    have hlt := hL_get l x hxl
    have hi : IntKind.i64.wrap ((x : Int) + 1) = ((x + 1 : Nat) : Int) := by rw [wrap_i64_of (by omega) (by omega)]; omega
    simp only [g0, g1, g2, g3, cellN_lit, cellL_lit, cellInt_lit, cellBool_lit, IsSl_lit, IsInt_lit, IsBool_lit, unI_itemsD, hi, ← cntP_succ l hxl]
    refine ⟨by omega, ⟨by omega, trivial⟩, ⟨⟨trivial, trivial⟩, by omega, o4, by simpa [maxLen] using o2⟩, x + 1, [], by omega, by omega, ?_⟩
    refine of_eq (B := letI z0 := (D.v (Value.int IntKind.i64 (((x + (1 : Nat)) : Nat) : Int))); letI z1 := (D.v (Value.int IntKind.i64 (cntP l (x + (1 : Nat))))); letI z2 := (D.ro (List.length l) (itemsD l)); letI z3 := ([] : List (Option Blk)); ((Bool.true = Bool.true) ∧ ((z3 = z3) ∧ ((True ∧ (z2 = z2)) ∧ ((True ∧ (z1 = z1)) ∧ ((True ∧ (z0 = z0)) ∧ True)))))) (by kernel_rfl) ?_; simp
  · simp only [decide_eq_false_iff_not] at h1
    have e : x = l.length := by omega
    subst e
    rw [cntP_all]
    refine ⟨(), [], ?_⟩
    refine of_eq (B := letI z0 := (D.v (Value.int IntKind.i64 (cntL l))); letI z1 := ([] : List (Option Blk)); ((Bool.true = Bool.true) ∧ ((z1 = z1) ∧ ((True ∧ (z0 = z0)) ∧ True)))) (by kernel_rfl) ?_; simp
theorem rcnt_pure (l : List Itm) (h : Nat) (hpre : CntIH 13 h ∧ hL l ≤ h ∧ okL l ∧ l.length ≤ maxLen) : PureJ Try.prog 13 [.ro l.length (itemsD l)] (.v (.int .i64 (cntL l))) := by
  refine pureJ_of_vcp (call := noCalls) (lp := fun k => bif Nat.beq k 3 then some (lp_rcntLoop l h) else none) (N := 10) T_ok mixed noCalls_ok Try.func13 rfl (by decide) (by kernel_rfl) (by kernel_rfl) (of_eq (B := LRuleP Try.prog Try.f13.ntmps (loopAt ((Try.f13.body).getD .skip) 3) (lp_rcntLoop l h) ∧ True) (by kernel_rfl) ⟨rcntLoop_rule l h hpre, trivial⟩) (by first | exact ⟨itemsD_nl l, trivial⟩ | trivial | simp [NamelessL, Nameless]) (by first | exact ⟨itemsD_nl l, trivial⟩ | trivial | simp [NamelessL, Nameless]) ?_
  refine of_eq (B := letI z0 := List.length l; letI z1 := (D.v (Value.int IntKind.i64 (0 : Int))); letI z2 := (D.v (Value.int IntKind.i64 (cntL l))); letI z3 := ([] : List (Option Blk)); letI z4 := (D.ro z0 (itemsD l)); (True ∧ (True ∧ (True ∧ (True ∧ (True ∧ (((0 : Nat) ≤ z0) ∧ (((Bool.true = Bool.true) ∧ ((z3 = z3) ∧ ((True ∧ (z4 = z4)) ∧ ((True ∧ ((D.v (Value.int IntKind.i64 ((z0 : Nat) : Int))) = (D.v (Value.int IntKind.i64 (cntP l (0 : Nat)))))) ∧ ((True ∧ (z1 = z1)) ∧ True))))) ∧ (Unit → (True → (True ∧ (True ∧ (True ∧ (True ∧ (z2 = z2))))))))))))))) (by kernel_rfl) ?_
  simp only [true_and, and_true, and_self, IsInt_lit, IsBool_lit, IsStr_lit, IsSl_lit, cellN_lit, cellL_lit, Bool.not_eq_true', Bool.not_eq_false', Bool.not_true, Bool.not_false, Int.reduceLE, Int.reduceLT, Int.reduceNeg, Nat.le_refl, Int.le_refl, Nat.reduceLT, Nat.reduceLeDiff, Nat.reduceEqDiff, D.v.injEq, D.tup.injEq, D.agg.injEq, D.ro.injEq, List.cons.injEq, Value.int.injEq, Value.bool.injEq, pcond_true, pcond_false, NamelessL, Nameless, Nat.reduceMul, Nat.reduceAdd, Nat.zero_add, Int.toNat_natCast, cntP_zero]
  simp
theorem rcnt_all : ∀ h, CntIH 13 h := by
  intro h
  induction h with
  | zero => intro l hl; omega
  | succ h ih => intro l h1 h2 h3; exact rcnt_pure l h ⟨ih, by omega, h2, h3⟩
def ent_rcnt := ent_cnt
theorem ent_rcnt_ok : EntOk Try.prog 13 ent_rcnt := ent_cnt_of _ rcnt_all
end Go.Proofs.Ytahiigfpikohgaa
end
section
namespace Go.Proofs.Ytahiigfpikohgaa
open Go.VD
set_option linter.unusedVariables false
set_option linter.unusedSimpArgs false
set_option maxRecDepth 100000
def WOk (n : Nat) (ys : List D) : Prop := (ys = wordsD (unW ys) ∧ n = (unW ys).length) ∧ (unW ys).length ≤ maxLen
def IOk (n : Nat) (ys : List D) : Prop := (ys = itemsD (unI ys) ∧ n = (unI ys).length) ∧ (unI ys).length ≤ maxLen ∧ okL (unI ys)
theorem WOk_lit (ws : List Wd) : WOk ws.length (wordsD ws) = (ws.length ≤ maxLen) := by simp [WOk, unW_wordsD]
theorem IOk_lit (l : List Itm) : IOk l.length (itemsD l) = (l.length ≤ maxLen ∧ okL l) := by simp [IOk, unI_itemsD]
def eqBy {α : Type} (f : α → α → Bool) : List α → List α → Bool
  | [], [] => true
  | x :: r, y :: s => f x y && eqBy f r s
  | _, _ => false
theorem eqBy_len {α : Type} {f : α → α → Bool} : ∀ {a b : List α}, a.length ≠ b.length → eqBy f a b = false
  | [], [], h => by simp at h
  | [], y :: s, _ => rfl
  | x :: r, [], _ => rfl
  | x :: r, y :: s, h => by rw [eqBy, eqBy_len (by simpa using h), Bool.and_false]
theorem eqBy_yes {α : Type} [Inhabited α] {f : α → α → Bool} : ∀ {a b : List α}, a.length = b.length → (∀ i, i < a.length → f (a.getD i default) (b.getD i default) = true) → eqBy f a b = true
  | [], [], _, _ => rfl
  | [], y :: s, h, _ => by simp at h
  | x :: r, [], h, _ => by simp at h
  | x :: r, y :: s, h, hh => by
    rw [eqBy, show f x y = true from by simpa using hh 0 (by simp), eqBy_yes (by simpa using h) fun i hi => by simpa using hh (i + 1) (by simpa using hi)]; rfl
theorem eqBy_no {α : Type} [Inhabited α] {f : α → α → Bool} : ∀ {a b : List α} (i : Nat), i < a.length → f (a.getD i default) (b.getD i default) = false → eqBy f a b = false
  | [], b, i, h, _ => by simp at h
  | x :: r, [], i, _, _ => rfl
  | x :: r, y :: s, 0, _, h => by rw [eqBy, show f x y = false from by simpa using h]; rfl
  | x :: r, y :: s, i + 1, hi, h => by rw [eqBy, eqBy_no i (by simpa using hi) (by simpa using h), Bool.and_false]
theorem eqBy_self {α : Type} {f : α → α → Bool} (h : ∀ x, f x x = true) : ∀ a : List α, eqBy f a a = true
  | [] => rfl
  | x :: r => by rw [eqBy, h x, eqBy_self h r]; rfl
def wdEq (a b : Wd) : Bool := (a.t == b.t) && (a.q == b.q)
mutual
def sameI : Itm → Itm → Bool
  | .mk _ ws b ks, .mk _ ws' b' ks' => (b == b') && (eqBy wdEq ws ws' && sameL ks ks')
def sameL : List Itm → List Itm → Bool
  | [], [] => true
  | x :: r, y :: s => sameI x y && sameL r s
  | _, _ => false
end
theorem sameI_eq (x y : Itm) : sameI x y = ((x.bl == y.bl) && (eqBy wdEq x.ws y.ws && sameL x.ks y.ks)) := by cases x; cases y; simp only [sameI, Itm.bl, Itm.ws, Itm.ks]
theorem sameL_eq : ∀ a b : List Itm, sameL a b = eqBy sameI a b
  | [], [] => by simp [sameL, eqBy]
  | [], y :: s => by simp [sameL, eqBy]
  | x :: r, [] => by simp [sameL, eqBy]
  | x :: r, y :: s => by rw [sameL, eqBy, sameL_eq r s]
theorem bytes_self (s : ByteArray) : (s == s) = true := by
  cases s with
  | mk d => exact (beq_self_eq_true d : (d == d) = true)
mutual
theorem sameI_self : ∀ x : Itm, sameI x x = true
  | .mk l ws b ks => by
    rw [sameI, sameL_self ks, eqBy_self (fun w => by simp [wdEq, bytes_self]) ws]; simp
theorem sameL_self : ∀ l : List Itm, sameL l l = true
  | [] => by simp [sameL]
  | x :: r => by rw [sameL, sameI_self x, sameL_self r]; rfl
end
def lp_eqwLoop (a b : List Wd) : LoopO := loopRule2 (α := Nat) (β := Unit) (γ := Unit) [] (fun i => (a.length = b.length ∧ i ≤ a.length) ∧ ∀ j, j < i → wdEq (a.getD j default) (b.getD j default) = true) (fun i => [(0, .ro a.length (wordsD a)), (1, .ro b.length (wordsD b)), (12, .v (.int .i64 (a.length : Int))), (13, .v (.int .i64 (i : Int)))]) (fun _ => []) (0) (fun _ => eqBy wdEq a b = true) (fun _ => (.exit 0, [(0, .ro a.length (wordsD a))], [])) (fun _ => eqBy wdEq a b = false) (fun _ => (.ret, [(4, .v (.bool false))], []))
theorem eqwLoop_rule (a b : List Wd) (hpre : a.length ≤ maxLen) : LRuleP Try.prog Try.f25.ntmps (loopAt ((Try.f25.body).getD .skip) 4) (lp_eqwLoop a b) := by
  refine lrule_of2 (α := Nat) (β := Unit) (γ := Unit) (call := noCalls) (lp := fun _ => none) (N := 10) T_ok mixed noCalls_ok (fun i => a.length - i) (by kernel_rfl) (LpAllP.none _) ?_
  intro x hJ
  refine of_eq (B := letI z8 := ((x : Nat) : Int); letI z0 := ((Int.toNat z8) * (2 : Nat)); letI z11 := (Exit.exit (0 : Nat)); letI z7 := List.length a; letI z3 := (Prod.mk (0 : Nat) (D.ro z7 (wordsD a))); letI z4 := ([] : List (Option Blk)); letI z1 := (Prod.mk z11 (Prod.mk [z3] z4)); letI z15 := (Prod.mk (4 : Nat) (D.v (Value.bool Bool.false))); letI z2 := (Prod.mk Exit.ret (Prod.mk [z15] z4)); letI z5 := (List.getD (wordsD a) (z0 + (1 : Nat)) (Inhabited.default)); letI z6 := (List.getD (wordsD b) (z0 + (1 : Nat)) (Inhabited.default)); letI z9 := (List.getD (wordsD a) z0 (Inhabited.default)); letI z10 := (List.getD (wordsD b) z0 (Inhabited.default)); letI z17 := ((z7 : Nat) : Int); letI z12 := (Prod.mk (12 : Nat) (D.v (Value.int IntKind.i64 z17))); letI z13 := (List (Option Nat)); letI z18 := List.length b; letI z14 := (Prod.mk (1 : Nat) (D.ro z18 (wordsD b))); letI z16 := eqBy wdEq a b; letI z19 := ((0 : Nat) < (2 : Nat)); letI z20 := ((1 : Nat) < (2 : Nat)); (True ∧ (pcond (Decidable.decide (z8 < z17)) (True ∧ (True ∧ (True ∧ (True ∧ ((((0 : Int) ≤ z8) ∧ (z8 < z17)) ∧ ((((z0 + (2 : Nat)) ≤ (List.length (wordsD a))) ∧ ((IsStr z9) ∧ ((IsBool z5) ∧ True))) ∧ (True ∧ (True ∧ ((((0 : Int) ≤ z8) ∧ (z8 < ((z18 : Nat) : Int))) ∧ ((((z0 + (2 : Nat)) ≤ (List.length (wordsD b))) ∧ ((IsStr z10) ∧ ((IsBool z6) ∧ True))) ∧ ((((z19 ∧ (IsStr (D.v (Value.string (cellStr z9))))) ∧ (z19 ∧ (IsStr (D.v (Value.string (cellStr z10)))))) ∧ (True ∧ (((z20 ∧ (IsBool (D.v (Value.bool (cellBool z5))))) ∧ (z20 ∧ (IsBool (D.v (Value.bool (cellBool z6)))))) ∧ (True ∧ True)))) ∧ ((Bool.true = Bool.true) ∧ (pcond (!(((cellStr z9) == (cellStr z10)) && (((cellBool z5) == (cellBool z6)) && Bool.true))) (True ∧ ((∃ (r : Unit), (∃ (kp : z13), ((z16 = Bool.true) ∧ ((Exit.ret = z11) ∧ (viewAll kp [z3] z4 (Prod.fst (Prod.snd ((fun (x_1 : Unit) => z1) r))) (Prod.snd (Prod.snd ((fun (x_1 : Unit) => z1) r)))))))) ∨ (∃ (r : Unit), (∃ (kp : z13), ((z16 = Bool.false) ∧ ((Exit.ret = Exit.ret) ∧ (viewAll kp [z15] z4 (Prod.fst (Prod.snd ((fun (x_1 : Unit) => z2) r))) (Prod.snd (Prod.snd ((fun (x_1 : Unit) => z2) r)))))))))) (True ∧ (True ∧ (∃ (y : Nat), (∃ (kp : z13), (((z7 - y) < (z7 - x)) ∧ ((((z7 = z18) ∧ (y ≤ z7)) ∧ (∀ (j : Nat), ((j < y) → ((wdEq (List.getD a j (Inhabited.default)) (List.getD b j (Inhabited.default))) = Bool.true)))) ∧ (viewAll kp [z3, z14, z12, (Prod.mk (13 : Nat) (D.v (Value.int IntKind.i64 (IntKind.wrap IntKind.i64 (z8 + (1 : Int))))))] z4 [z3, z14, z12, (Prod.mk (13 : Nat) (D.v (Value.int IntKind.i64 ((y : Nat) : Int))))] z4)))))))))))))))))))) ((∃ (r : Unit), (∃ (kp : z13), ((z16 = Bool.true) ∧ ((z11 = z11) ∧ (viewAll kp [z3] z4 (Prod.fst (Prod.snd ((fun (x_1 : Unit) => z1) r))) (Prod.snd (Prod.snd ((fun (x_1 : Unit) => z1) r)))))))) ∨ (∃ (r : Unit), (∃ (kp : z13), ((z16 = Bool.false) ∧ ((z11 = Exit.ret) ∧ (viewAll kp ([] : List (Prod Nat D)) z4 (Prod.fst (Prod.snd ((fun (x_1 : Unit) => z2) r))) (Prod.snd (Prod.snd ((fun (x_1 : Unit) => z2) r)))))))))))) (by kernel_rfl) ?_
  simp only [true_and, and_true, and_self, IsInt_lit, IsBool_lit, IsStr_lit, IsSl_lit, cellN_lit, cellL_lit, Bool.not_eq_true', Bool.not_eq_false', Bool.not_true, Bool.not_false, Int.reduceLE, Int.reduceLT, Int.reduceNeg, Nat.le_refl, Int.le_refl, Nat.reduceLT, Nat.reduceLeDiff, Nat.reduceEqDiff, D.v.injEq, D.tup.injEq, D.agg.injEq, D.ro.injEq, List.cons.injEq, Value.int.injEq, Value.bool.injEq, pcond_true, pcond_false, NamelessL, Nameless, Nat.reduceMul, Nat.reduceAdd, Nat.zero_add, Int.toNat_natCast] at *
  have hlm := hpre
  obtain ⟨⟨hab, hx⟩, hall⟩ := hJ
  simp only [maxLen] at hlm
  refine pcond_intro (fun h1 => ?_) (fun h1 => ?_)
  · simp only [decide_eq_true_eq] at h1
    have hxl : x < a.length := by omega
    obtain ⟨g0, g1⟩ := wordsD_get a x hxl
    obtain ⟨e0, e1⟩ := wordsD_get b x (by omega)
    have l1 := wordsD_length a
    have l2 := wordsD_length b
    have hi : IntKind.i64.wrap ((x : Int) + 1) = ((x + 1 : Nat) : Int) := by rw [wrap_i64_of (by omega) (by omega)]; omega
    simp only [g0, g1, e0, e1, cellStr_lit, cellBool_lit, IsStr_lit, IsBool_lit, hi]
    have ew : wdEq (a.getD x default) (b.getD x default) = ((a.getD x default).t == (b.getD x default).t && ((a.getD x default).q == (b.getD x default).q && true)) := by rw [Bool.and_true]; rfl
    rw [← ew]
    refine ⟨by omega, ⟨by omega, trivial, trivial⟩, by omega, ⟨by omega, trivial, trivial⟩, pcond_intro (fun h2 => .inr ⟨(), [], eqBy_no x hxl (by simpa using h2), ?_⟩) (fun h2 => ⟨x + 1, [], by omega, ⟨⟨hab, by omega⟩, fun j hj => ?_⟩, ?_⟩)⟩
    · refine of_eq (B := letI z0 := (D.v (Value.bool Bool.false)); letI z1 := ([] : List (Option Blk)); ((Bool.true = Bool.true) ∧ ((z1 = z1) ∧ ((True ∧ (z0 = z0)) ∧ True)))) (by kernel_rfl) ?_; simp
    · rcases Nat.lt_succ_iff_lt_or_eq.1 hj with h | rfl
      · exact hall j h
      · simpa using h2
    · refine of_eq (B := letI z0 := (D.v (Value.int IntKind.i64 (((List.length a) : Nat) : Int))); letI z1 := (D.v (Value.int IntKind.i64 (((x + (1 : Nat)) : Nat) : Int))); letI z2 := (D.ro (List.length a) (wordsD a)); letI z3 := (D.ro (List.length b) (wordsD b)); letI z4 := ([] : List (Option Blk)); ((Bool.true = Bool.true) ∧ ((z4 = z4) ∧ ((True ∧ (z2 = z2)) ∧ ((True ∧ (z3 = z3)) ∧ ((True ∧ (z0 = z0)) ∧ ((True ∧ (z1 = z1)) ∧ True))))))) (by kernel_rfl) ?_; simp
  · simp only [decide_eq_false_iff_not] at h1
    refine .inl ⟨(), [], eqBy_yes hab fun i hi => hall i (by omega), ?_⟩
    refine of_eq (B := letI z0 := (D.ro (List.length a) (wordsD a)); letI z1 := ([] : List (Option Blk)); ((Bool.true = Bool.true) ∧ ((z1 = z1) ∧ ((True ∧ (z0 = z0)) ∧ True)))) (by kernel_rfl) ?_; simp
theorem eqw_pure (a b : List Wd) (hpre : a.length ≤ maxLen) : PureJ Try.prog 25 [.ro a.length (wordsD a), .ro b.length (wordsD b)] (.v (.bool (eqBy wdEq a b))) := by
  refine pureJ_of_vcp (call := noCalls) (lp := fun k => bif Nat.beq k 4 then some (lp_eqwLoop a b) else none) (N := 10) T_ok mixed noCalls_ok Try.func25 rfl (by decide) (by kernel_rfl) (by kernel_rfl) (of_eq (B := LRuleP Try.prog Try.f25.ntmps (loopAt ((Try.f25.body).getD .skip) 4) (lp_eqwLoop a b) ∧ True) (by kernel_rfl) ⟨eqwLoop_rule a b hpre, trivial⟩) (by first | exact ⟨wordsD_nl a, wordsD_nl b, trivial⟩ | trivial | simp [NamelessL, Nameless]) (by first | exact ⟨wordsD_nl a, wordsD_nl b, trivial⟩ | trivial | simp [NamelessL, Nameless]) ?_
  refine of_eq (B := letI z5 := eqBy wdEq a b; letI z7 := (D.v (Value.bool z5)); letI z0 := (True ∧ (True ∧ ((D.v (Value.bool Bool.false)) = z7))); letI z1 := List.length a; letI z2 := (D.v (Value.int IntKind.i64 ((z1 : Nat) : Int))); letI z3 := List.length b; letI z4 := (D.v (Value.int IntKind.i64 (0 : Int))); letI z6 := ([] : List (Option Blk)); letI z8 := (D.ro z1 (wordsD a)); letI z9 := (D.ro z3 (wordsD b)); (True ∧ (True ∧ (True ∧ (True ∧ (True ∧ (True ∧ (pcond (((z1 : Nat) : Int) != ((z3 : Nat) : Int)) (True ∧ z0) (True ∧ (True ∧ (True ∧ ((((z1 = z3) ∧ ((0 : Nat) ≤ z1)) ∧ (∀ (j : Nat), ((j < (0 : Nat)) → ((wdEq (List.getD a j (Inhabited.default)) (List.getD b j (Inhabited.default))) = Bool.true)))) ∧ (((Bool.true = Bool.true) ∧ ((z6 = z6) ∧ ((True ∧ (z8 = z8)) ∧ ((True ∧ (z9 = z9)) ∧ ((True ∧ (z2 = z2)) ∧ ((True ∧ (z4 = z4)) ∧ True)))))) ∧ ((Unit → ((z5 = Bool.true) → (True ∧ (True ∧ (True ∧ ((D.v (Value.bool Bool.true)) = z7)))))) ∧ (Unit → ((z5 = Bool.false) → z0)))))))))))))))) (by kernel_rfl) ?_
  simp only [true_and, and_true, and_self, IsInt_lit, IsBool_lit, IsStr_lit, IsSl_lit, cellN_lit, cellL_lit, Bool.not_eq_true', Bool.not_eq_false', Bool.not_true, Bool.not_false, Int.reduceLE, Int.reduceLT, Int.reduceNeg, Nat.le_refl, Int.le_refl, Nat.reduceLT, Nat.reduceLeDiff, Nat.reduceEqDiff, D.v.injEq, D.tup.injEq, D.agg.injEq, D.ro.injEq, List.cons.injEq, Value.int.injEq, Value.bool.injEq, pcond_true, pcond_false, NamelessL, Nameless, Nat.reduceMul, Nat.reduceAdd, Nat.zero_add, Int.toNat_natCast]
  refine pcond_intro (fun h1 => ?_) (fun h1 => ?_)
  · rw [eqBy_len (by simp at h1; omega)]
  · have hab : a.length = b.length := by simp at h1; omega
    refine ⟨⟨⟨hab, Nat.zero_le _⟩, fun j hj => absurd hj (Nat.not_lt_zero _)⟩, fun _ h => h.symm, fun _ h => h.symm⟩
def ent_eqw : Ent := fun ds => match ds with
  | [.ro n xs, .ro m ys] => some (.v (.bool (eqBy wdEq (unW xs) (unW ys))), WOk n xs ∧ WOk m ys)
  | _ => none
theorem ent_eqw_ok : EntOk Try.prog 25 ent_eqw := by
  intro ds d c hd hc; unfold ent_eqw at hd; split at hd
  · obtain ⟨rfl, rfl⟩ := pair_inj hd
    obtain ⟨⟨⟨h1, h2⟩, h3⟩, ⟨g1, g2⟩, g3⟩ := hc
    rename_i n xs m ys
    generalize unW xs = a at *
    generalize unW ys = b at *
    subst h1; subst h2; subst g1; subst g2
    exact eqw_pure a b h3
  · cases hd
def SameIH (f : FuncId) (h : Nat) : Prop := ∀ a b : List Itm, hL a < h → (okL a ∧ a.length ≤ maxLen) → (okL b ∧ b.length ≤ maxLen) → PureJ Try.prog f [.ro a.length (itemsD a), .ro b.length (itemsD b)] (.v (.bool (sameL a b)))
def ent_sameR (h : Nat) : Ent := fun ds => match ds with
  | [.ro n xs, .ro m ys] => some (.v (.bool (sameL (unI xs) (unI ys))), (IOk n xs ∧ IOk m ys) ∧ hL (unI xs) < h)
  | _ => none
theorem ent_sameR_ok0 (f : FuncId) (h : Nat) (ih : SameIH f h) : EntOk Try.prog f (ent_sameR h) := by
  intro ds d c hd hc; unfold ent_sameR at hd; split at hd
  · obtain ⟨rfl, rfl⟩ := pair_inj hd
    obtain ⟨⟨⟨⟨h1, h2⟩, h3, h4⟩, ⟨g1, g2⟩, g3, g4⟩, hh⟩ := hc
    rename_i n xs m ys
    generalize unI xs = a at *
    generalize unI ys = b at *
    subst h1; subst h2; subst g1; subst g2
    exact ih a b hh ⟨h4, h3⟩ ⟨g4, g3⟩
  · cases hd
theorem ent_sameR_ok (h : Nat) (ih : SameIH 14 h) : EntOk Try.prog 14 (ent_sameR h) := ent_sameR_ok0 _ h ih
theorem same1_pure (x y : Itm) (h : Nat) (hpre : SameIH 14 h ∧ hL x.ks < h ∧ okI x ∧ okI y) : PureJ Try.prog 24 [.agg [.v (.int .i64 x.line), .ro x.ws.length (wordsD x.ws), .v (.bool x.bl), .ro x.ks.length (itemsD x.ks)], .agg [.v (.int .i64 y.line), .ro y.ws.length (wordsD y.ws), .v (.bool y.bl), .ro y.ks.length (itemsD y.ks)]] (.v (.bool (sameI x y))) := by
  refine pureJ_of_vcx (call := (addPure 25 ent_eqw (addPure 14 (ent_sameR h) noCalls))) (lp := fun _ => none) (N := 10) T_ok mixed (addPure_ok ent_eqw_ok (addPure_ok (ent_sameR_ok h hpre.1) noCalls_ok)) Try.func24 rfl (by decide) (by kernel_rfl) (by kernel_rfl) (LpAll.none _) (by first | exact ⟨⟨trivial, wordsD_nl _, trivial, itemsD_nl _, trivial⟩, ⟨trivial, wordsD_nl _, trivial, itemsD_nl _, trivial⟩, trivial⟩ | trivial | simp [NamelessL, Nameless]) (by first | exact ⟨⟨trivial, wordsD_nl _, trivial, itemsD_nl _, trivial⟩, ⟨trivial, wordsD_nl _, trivial, itemsD_nl _, trivial⟩, trivial⟩ | trivial | simp [NamelessL, Nameless]) ?_
  refine of_eq (B := letI z2 := (D.v (Value.bool (sameI x y))); letI z0 := (True ∧ (True ∧ (True ∧ (True ∧ ((D.v (Value.bool Bool.false)) = z2))))); letI z1 := (itemsD (Itm.ks x)); letI z3 := ((2 : Nat) < (4 : Nat)); letI z4 := ((1 : Nat) < (4 : Nat)); letI z5 := ((3 : Nat) < (4 : Nat)); letI z6 := (wordsD (Itm.ws x)); letI z7 := (wordsD (Itm.ws y)); letI z8 := (itemsD (Itm.ks y)); (True ∧ (True ∧ (True ∧ (True ∧ ((z3 ∧ (IsBool (D.v (Value.bool (Itm.bl x))))) ∧ (True ∧ ((z3 ∧ (IsBool (D.v (Value.bool (Itm.bl y))))) ∧ (True ∧ (True ∧ (pcond ((Itm.bl x) == (Itm.bl y)) (True ∧ (z4 ∧ (True ∧ (z4 ∧ (((WOk (List.length (Itm.ws x)) z6) ∧ (WOk (List.length (Itm.ws y)) z7)) ∧ (True ∧ (True ∧ (pcond (eqBy wdEq (unW z6) (unW z7)) (True ∧ (z5 ∧ (True ∧ (z5 ∧ ((((IOk (List.length (Itm.ks x)) z1) ∧ (IOk (List.length (Itm.ks y)) z8)) ∧ ((hL (unI z1)) < h)) ∧ (True ∧ (True ∧ (True ∧ (True ∧ ((D.v (Value.bool (sameL (unI z1) (unI z8)))) = z2)))))))))) z0)))))))) (True ∧ (True ∧ z0))))))))))))) (by kernel_rfl) ?_
  simp only [true_and, and_true, and_self, IsInt_lit, IsBool_lit, IsStr_lit, IsSl_lit, cellN_lit, cellL_lit, Bool.not_eq_true', Bool.not_eq_false', Bool.not_true, Bool.not_false, Int.reduceLE, Int.reduceLT, Int.reduceNeg, Nat.le_refl, Int.le_refl, Nat.reduceLT, Nat.reduceLeDiff, Nat.reduceEqDiff, D.v.injEq, D.tup.injEq, D.agg.injEq, D.ro.injEq, List.cons.injEq, Value.int.injEq, Value.bool.injEq, pcond_true, pcond_false, NamelessL, Nameless, Nat.reduceMul, Nat.reduceAdd, Nat.zero_add, Int.toNat_natCast, sameI_eq]
  obtain ⟨ih, hh, hx, hy⟩ := hpre
  obtain ⟨o1, o2, o3, o4⟩ := okI_parts hx
  obtain ⟨p1, p2, p3, p4⟩ := okI_parts hy
  simp only [WOk_lit, IOk_lit, unW_wordsD, unI_itemsD]
  refine pcond_intro (fun h1 => ⟨⟨o1, p1⟩, pcond_intro (fun h2 => ⟨⟨⟨⟨o2, o4⟩, p2, p4⟩, hh⟩, ?_⟩) (fun h2 => ?_)⟩) (fun h1 => ?_)
  · rw [h1, h2, Bool.true_and, Bool.true_and]
  · rw [h1, h2]; rfl
  · rw [h1]; rfl
def ent_same1R (h : Nat) : Ent := fun ds => match ds with
  | [.agg [.v (.int .i64 la), .ro na wa, .v (.bool ba), .ro ka ya], .agg [.v (.int .i64 lb), .ro nb wb, .v (.bool bb), .ro kb yb]] =>
    some (.v (.bool (sameI (.mk la (unW wa) ba (unI ya)) (.mk lb (unW wb) bb (unI yb)))), ((WOk na wa ∧ IOk ka ya) ∧ WOk nb wb ∧ IOk kb yb) ∧ hL (unI ya) < h ∧ okI (.mk la (unW wa) ba (unI ya)) ∧ okI (.mk lb (unW wb) bb (unI yb)))
  | _ => none
theorem ent_same1R_ok (h : Nat) (ih : SameIH 14 h) : EntOk Try.prog 24 (ent_same1R h) := by
  intro ds d c hd hc; unfold ent_same1R at hd; split at hd
  · rename_i la na wa ba ka ya lb nb wb bb kb yb
    obtain ⟨rfl, rfl⟩ := pair_inj hd
    obtain ⟨⟨⟨⟨⟨a1, a2⟩, a3⟩, ⟨b1, b2⟩, b3, b4⟩, ⟨⟨c1, c2⟩, c3⟩, ⟨d1, d2⟩, d3, d4⟩, hh, hx, hy⟩ := hc
    generalize unW wa = wx at *
    generalize unI ya = kx at *
    generalize unW wb = wy at *
    generalize unI yb = ky at *
    subst a1; subst a2; subst b1; subst b2; subst c1; subst c2; subst d1; subst d2
    exact same1_pure (.mk la wx ba kx) (.mk lb wy bb ky) h ⟨ih, hh, hx, hy⟩
  · cases hd
theorem mk_eta (x : Itm) : Itm.mk x.line x.ws x.bl x.ks = x := by cases x; rfl
def lp_eqfLoop (a b : List Itm) (h : Nat) : LoopO := loopRule2 (α := Nat) (β := Unit) (γ := Unit) [] (fun i => (a.length = b.length ∧ i ≤ a.length) ∧ ∀ j, j < i → sameI (a.getD j default) (b.getD j default) = true) (fun i => [(15, .ro a.length (itemsD a)), (1, .ro b.length (itemsD b)), (2, .fn 24 0 []), (16, .v (.int .i64 (a.length : Int))), (17, .v (.int .i64 (i : Int)))]) (fun _ => []) (0) (fun _ => sameL a b = true) (fun _ => (.exit 0, [(1, .ro b.length (itemsD b))], [])) (fun _ => sameL a b = false) (fun _ => (.ret, [(6, .v (.bool false))], []))
theorem eqfLoop_rule (a b : List Itm) (h : Nat) (hpre : SameIH 14 h ∧ hL a ≤ h ∧ (okL a ∧ a.length ≤ maxLen) ∧ okL b ∧ b.length ≤ maxLen) : LRuleP Try.prog Try.f23.ntmps (loopAt ((Try.f23.body).getD .skip) 4) (lp_eqfLoop a b h) := by
  refine lrule_of2 (α := Nat) (β := Unit) (γ := Unit) (call := (addPure 24 (ent_same1R h) noCalls)) (lp := fun _ => none) (N := 10) T_ok mixed (addPure_ok (ent_same1R_ok h hpre.1) noCalls_ok) (fun i => a.length - i) (by kernel_rfl) (LpAllP.none _) ?_
  intro x hJ
  refine of_eq (B := letI z16 := ((x : Nat) : Int); letI z5 := ((Int.toNat z16) * (4 : Nat)); letI z0 := (z5 + (1 : Nat)); letI z13 := (List.getD (itemsD a) z5 (Inhabited.default)); letI z8 := (List.getD (itemsD a) z0 (Inhabited.default)); letI z26 := (z0 + (1 : Nat)); letI z11 := (List.getD (itemsD a) z26 (Inhabited.default)); letI z3 := (List.getD (itemsD a) (z26 + (1 : Nat)) (Inhabited.default)); letI z1 := (Option.some (Blk.mk (36 : Nat) [(D.v (Value.int IntKind.i64 (cellInt z13))), (D.ro (cellN z8) (cellL z8)), (D.v (Value.bool (cellBool z11))), (D.ro (cellN z3) (cellL z3))] Bool.true)); letI z14 := (List.getD (itemsD b) z5 (Inhabited.default)); letI z9 := (List.getD (itemsD b) z0 (Inhabited.default)); letI z12 := (List.getD (itemsD b) z26 (Inhabited.default)); letI z4 := (List.getD (itemsD b) (z26 + (1 : Nat)) (Inhabited.default)); letI z2 := (Option.some (Blk.mk (36 : Nat) [(D.v (Value.int IntKind.i64 (cellInt z14))), (D.ro (cellN z9) (cellL z9)), (D.v (Value.bool (cellBool z12))), (D.ro (cellN z4) (cellL z4))] Bool.true)); letI z18 := (Exit.exit (0 : Nat)); letI z29 := List.length b; letI z10 := (Prod.mk (1 : Nat) (D.ro z29 (itemsD b))); letI z17 := ([] : List (Option Blk)); letI z6 := (Prod.mk z18 (Prod.mk [z10] z17)); letI z24 := (Prod.mk (6 : Nat) (D.v (Value.bool Bool.false))); letI z7 := (Prod.mk Exit.ret (Prod.mk [z24] z17)); letI z15 := List.length a; letI z19 := (Itm.mk (cellInt z13) (unW (cellL z8)) (cellBool z11) (unI (cellL z3))); letI z20 := (Itm.mk (cellInt z14) (unW (cellL z9)) (cellBool z12) (unI (cellL z4))); letI z27 := ((z15 : Nat) : Int); letI z21 := (Prod.mk (16 : Nat) (D.v (Value.int IntKind.i64 z27))); letI z22 := ((4 : Nat) ≤ (4 : Nat)); letI z23 := (List (Option Nat)); letI z25 := (Prod.mk (15 : Nat) (D.ro z15 (itemsD a))); letI z28 := (((4 : Nat) = (4 : Nat)) ∧ z22); letI z30 := ((sameL a b) = Bool.false); letI z31 := ((sameL a b) = Bool.true); letI z32 := ((0 : Int) ≤ z16); (True ∧ (pcond (Decidable.decide (z16 < z27)) (True ∧ ((z32 ∧ (z16 < z27)) ∧ ((((z5 + (4 : Nat)) ≤ (List.length (itemsD a))) ∧ ((IsInt IntKind.i64 z13) ∧ ((IsSl z8) ∧ ((IsBool z11) ∧ ((IsSl z3) ∧ True))))) ∧ (True ∧ (True ∧ (z28 ∧ (True ∧ (True ∧ ((z32 ∧ (z16 < ((z29 : Nat) : Int))) ∧ ((((z5 + (4 : Nat)) ≤ (List.length (itemsD b))) ∧ ((IsInt IntKind.i64 z14) ∧ ((IsSl z9) ∧ ((IsBool z12) ∧ ((IsSl z4) ∧ True))))) ∧ (True ∧ (z28 ∧ (True ∧ (z22 ∧ (z22 ∧ (((((WOk (cellN z8) (cellL z8)) ∧ (IOk (cellN z3) (cellL z3))) ∧ ((WOk (cellN z9) (cellL z9)) ∧ (IOk (cellN z4) (cellL z4)))) ∧ (((hL (unI (cellL z3))) < h) ∧ ((okI z19) ∧ (okI z20)))) ∧ (True ∧ (pcond (!(sameI z19 z20)) (True ∧ ((∃ (r : Unit), (∃ (kp : z23), (z31 ∧ ((Exit.ret = z18) ∧ (viewAll kp [z10] [z1, z2] (Prod.fst (Prod.snd ((fun (x_1 : Unit) => z6) r))) (Prod.snd (Prod.snd ((fun (x_1 : Unit) => z6) r)))))))) ∨ (∃ (r : Unit), (∃ (kp : z23), (z30 ∧ ((Exit.ret = Exit.ret) ∧ (viewAll kp [z24] [z1, z2] (Prod.fst (Prod.snd ((fun (x_1 : Unit) => z7) r))) (Prod.snd (Prod.snd ((fun (x_1 : Unit) => z7) r)))))))))) (True ∧ (True ∧ (∃ (y : Nat), (∃ (kp : z23), (((z15 - y) < (z15 - x)) ∧ ((((z15 = z29) ∧ (y ≤ z15)) ∧ (∀ (j : Nat), ((j < y) → ((sameI (List.getD a j (Inhabited.default)) (List.getD b j (Inhabited.default))) = Bool.true)))) ∧ (viewAll kp [z25, z10, (Prod.mk (2 : Nat) (D.fn (24 : Nat) (0 : Nat) ([] : List D))), z21, (Prod.mk (17 : Nat) (D.v (Value.int IntKind.i64 (IntKind.wrap IntKind.i64 (z16 + (1 : Int))))))] [z1, z2] [z25, z10, (Prod.mk (2 : Nat) (D.fn (24 : FuncId) (0 : Nat) ([] : List D))), z21, (Prod.mk (17 : Nat) (D.v (Value.int IntKind.i64 ((y : Nat) : Int))))] z17))))))))))))))))))))))))) ((∃ (r : Unit), (∃ (kp : z23), (z31 ∧ ((z18 = z18) ∧ (viewAll kp [z10] z17 (Prod.fst (Prod.snd ((fun (x_1 : Unit) => z6) r))) (Prod.snd (Prod.snd ((fun (x_1 : Unit) => z6) r)))))))) ∨ (∃ (r : Unit), (∃ (kp : z23), (z30 ∧ ((z18 = Exit.ret) ∧ (viewAll kp ([] : List (Prod Nat D)) z17 (Prod.fst (Prod.snd ((fun (x_1 : Unit) => z7) r))) (Prod.snd (Prod.snd ((fun (x_1 : Unit) => z7) r)))))))))))) (by kernel_rfl) ?_
  simp only [true_and, and_true, and_self, IsInt_lit, IsBool_lit, IsStr_lit, IsSl_lit, cellN_lit, cellL_lit, Bool.not_eq_true', Bool.not_eq_false', Bool.not_true, Bool.not_false, Int.reduceLE, Int.reduceLT, Int.reduceNeg, Nat.le_refl, Int.le_refl, Nat.reduceLT, Nat.reduceLeDiff, Nat.reduceEqDiff, D.v.injEq, D.tup.injEq, D.agg.injEq, D.ro.injEq, List.cons.injEq, Value.int.injEq, Value.bool.injEq, pcond_true, pcond_false, NamelessL, Nameless, Nat.reduceMul, Nat.reduceAdd, Nat.zero_add, Int.toNat_natCast] at *
  obtain ⟨ih, hh, ⟨ha, hlm⟩, hb, hlb⟩ := hpre
  obtain ⟨⟨hab, hx⟩, hall⟩ := hJ
  simp only [maxLen] at hlm hlb
  refine pcond_intro (fun h1 => ?_) (fun h1 => ?_)
  · simp only [decide_eq_true_eq] at h1
    have hxl : x < a.length := by omega
    obtain ⟨g0, g1, g2, g3⟩ := itemsD_get a x hxl
    obtain ⟨e0, e1, e2, e3⟩ := itemsD_get b x (by omega)
    have l1 := itemsD_length a
    have l2 := itemsD_length b
    have hi : IntKind.i64.wrap ((x : Int) + 1) = ((x + 1 : Nat) : Int) := by rw [wrap_i64_of (by omega) (by omega)]; omega
    have ox := okL_get a x ha hxl
    have oy := okL_get b x hb (by omega)
    have hlt := hL_get a x hxl
    obtain ⟨o1, o2, o3, o4⟩ := okI_parts ox
    obtain ⟨p1, p2, p3, p4⟩ := okI_parts oy
    simp only [g0, g1, g2, g3, e0, e1, e2, e3, cellInt_lit, cellN_lit, cellL_lit, cellBool_lit, IsInt_lit, IsSl_lit, IsBool_lit, WOk_lit, IOk_lit, unW_wordsD, unI_itemsD, mk_eta, hi]
    refine ⟨by omega, ⟨by omega, trivial, trivial, trivial, trivial⟩, by omega, ⟨by omega, trivial, trivial, trivial, trivial⟩, ⟨⟨⟨o1, o2, o4⟩, p1, p2, p4⟩, by omega, ox, oy⟩, pcond_intro (fun h2 => .inr ⟨(), [], ?_, ?_⟩) (fun h2 => ⟨x + 1, [], by omega, ⟨⟨hab, by omega⟩, fun j hj => ?_⟩, ?_⟩)⟩
    · rw [sameL_eq]; exact eqBy_no x hxl (by simpa using h2)
    · refine of_eq (B := letI z0 := (D.v (Value.bool Bool.false)); letI z1 := ([] : List (Option Blk)); ((Bool.true = Bool.true) ∧ ((z1 = z1) ∧ ((True ∧ (z0 = z0)) ∧ True)))) (by kernel_rfl) ?_; simp
    · rcases Nat.lt_succ_iff_lt_or_eq.1 hj with h | rfl
      · exact hall j h
      · simpa using h2
    · refine of_eq (B := letI z0 := (D.v (Value.int IntKind.i64 (((List.length a) : Nat) : Int))); letI z1 := (D.v (Value.int IntKind.i64 (((x + (1 : Nat)) : Nat) : Int))); letI z2 := (D.fn (24 : Nat) (0 : Nat) ([] : List D)); letI z3 := (D.ro (List.length a) (itemsD a)); letI z4 := (D.ro (List.length b) (itemsD b)); letI z5 := ([] : List (Option Blk)); ((Bool.true = Bool.true) ∧ ((z5 = z5) ∧ ((True ∧ (z3 = z3)) ∧ ((True ∧ (z4 = z4)) ∧ ((True ∧ (z2 = z2)) ∧ ((True ∧ (z0 = z0)) ∧ ((True ∧ (z1 = z1)) ∧ True)))))))) (by kernel_rfl) ?_; simp
  · simp only [decide_eq_false_iff_not] at h1
    refine .inl ⟨(), [], ?_, ?_⟩
    · rw [sameL_eq]; exact eqBy_yes hab fun i hi => hall i (by omega)
    · refine of_eq (B := letI z0 := (D.ro (List.length b) (itemsD b)); letI z1 := ([] : List (Option Blk)); ((Bool.true = Bool.true) ∧ ((z1 = z1) ∧ ((True ∧ (z0 = z0)) ∧ True)))) (by kernel_rfl) ?_; simp
theorem eqf_pure (a b : List Itm) (h : Nat) (hpre : SameIH 14 h ∧ hL a ≤ h ∧ (okL a ∧ a.length ≤ maxLen) ∧ okL b ∧ b.length ≤ maxLen) : PureJ Try.prog 23 [.ro a.length (itemsD a), .ro b.length (itemsD b), .fn 24 0 []] (.v (.bool (sameL a b))) := by
  refine pureJ_of_vcp (call := noCalls) (lp := fun k => bif Nat.beq k 4 then some (lp_eqfLoop a b h) else none) (N := 10) T_ok mixed noCalls_ok Try.func23 rfl (by decide) (by kernel_rfl) (by kernel_rfl) (of_eq (B := LRuleP Try.prog Try.f23.ntmps (loopAt ((Try.f23.body).getD .skip) 4) (lp_eqfLoop a b h) ∧ True) (by kernel_rfl) ⟨eqfLoop_rule a b h hpre, trivial⟩) (by first | exact ⟨itemsD_nl a, itemsD_nl b, trivial, trivial⟩ | trivial | simp [NamelessL, Nameless]) (by first | exact ⟨itemsD_nl a, itemsD_nl b, trivial, trivial⟩ | trivial | simp [NamelessL, Nameless]) ?_
  refine of_eq (B := letI z6 := (D.v (Value.bool (sameL a b))); letI z0 := (True ∧ (True ∧ ((D.v (Value.bool Bool.false)) = z6))); letI z1 := List.length a; letI z2 := (D.v (Value.int IntKind.i64 ((z1 : Nat) : Int))); letI z3 := (D.fn (24 : Nat) (0 : Nat) ([] : List D)); letI z4 := List.length b; letI z5 := (D.v (Value.int IntKind.i64 (0 : Int))); letI z7 := ([] : List (Option Blk)); letI z8 := (D.ro z1 (itemsD a)); letI z9 := (D.ro z4 (itemsD b)); (True ∧ (True ∧ (True ∧ (True ∧ (True ∧ (True ∧ (pcond (((z1 : Nat) : Int) != ((z4 : Nat) : Int)) (True ∧ z0) (True ∧ (True ∧ (True ∧ ((((z1 = z4) ∧ ((0 : Nat) ≤ z1)) ∧ (∀ (j : Nat), ((j < (0 : Nat)) → ((sameI (List.getD a j (Inhabited.default)) (List.getD b j (Inhabited.default))) = Bool.true)))) ∧ (((Bool.true = Bool.true) ∧ ((z7 = z7) ∧ ((True ∧ (z8 = z8)) ∧ ((True ∧ (z9 = z9)) ∧ ((True ∧ (z3 = z3)) ∧ ((True ∧ (z2 = z2)) ∧ ((True ∧ (z5 = z5)) ∧ True))))))) ∧ ((Unit → (((sameL a b) = Bool.true) → (True ∧ (True ∧ (True ∧ ((D.v (Value.bool Bool.true)) = z6)))))) ∧ (Unit → (((sameL a b) = Bool.false) → z0)))))))))))))))) (by kernel_rfl) ?_
  simp only [true_and, and_true, and_self, IsInt_lit, IsBool_lit, IsStr_lit, IsSl_lit, cellN_lit, cellL_lit, Bool.not_eq_true', Bool.not_eq_false', Bool.not_true, Bool.not_false, Int.reduceLE, Int.reduceLT, Int.reduceNeg, Nat.le_refl, Int.le_refl, Nat.reduceLT, Nat.reduceLeDiff, Nat.reduceEqDiff, D.v.injEq, D.tup.injEq, D.agg.injEq, D.ro.injEq, List.cons.injEq, Value.int.injEq, Value.bool.injEq, pcond_true, pcond_false, NamelessL, Nameless, Nat.reduceMul, Nat.reduceAdd, Nat.zero_add, Int.toNat_natCast]
  refine pcond_intro (fun h1 => ?_) (fun h1 => ?_)
  · rw [sameL_eq, eqBy_len (by simp at h1; omega)]
  · have hab : a.length = b.length := by simp at h1; omega
    refine ⟨⟨⟨hab, Nat.zero_le _⟩, fun j hj => absurd hj (Nat.not_lt_zero _)⟩, fun _ h => h.symm, fun _ h => h.symm⟩
def ent_eqfR (h : Nat) : Ent := fun ds => match ds with
  | [.ro n xs, .ro m ys, .fn 24 0 []] => some (.v (.bool (sameL (unI xs) (unI ys))), (IOk n xs ∧ IOk m ys) ∧ hL (unI xs) ≤ h)
  | _ => none
theorem ent_eqfR_ok (h : Nat) (ih : SameIH 14 h) : EntOk Try.prog 23 (ent_eqfR h) := by
  intro ds d c hd hc; unfold ent_eqfR at hd; split at hd
  · obtain ⟨rfl, rfl⟩ := pair_inj hd
    obtain ⟨⟨⟨⟨h1, h2⟩, h3, h4⟩, ⟨g1, g2⟩, g3, g4⟩, hh⟩ := hc
    rename_i n xs m ys
    generalize unI xs = a at *
    generalize unI ys = b at *
    subst h1; subst h2; subst g1; subst g2
    exact eqf_pure a b h ⟨ih, hh, ⟨h4, h3⟩, g4, g3⟩
  · cases hd
theorem same_pure (a b : List Itm) (h : Nat) (hpre : SameIH 14 h ∧ hL a ≤ h ∧ (okL a ∧ a.length ≤ maxLen) ∧ okL b ∧ b.length ≤ maxLen) : PureJ Try.prog 14 [.ro a.length (itemsD a), .ro b.length (itemsD b)] (.v (.bool (sameL a b))) := by
  refine pureJ_of_vcx (call := (addPure 23 (ent_eqfR h) noCalls)) (lp := fun _ => none) (N := 10) T_ok mixed (addPure_ok (ent_eqfR_ok h hpre.1) noCalls_ok) Try.func14 rfl (by decide) (by kernel_rfl) (by kernel_rfl) (LpAll.none _) (by first | exact ⟨itemsD_nl a, itemsD_nl b, trivial⟩ | trivial | simp [NamelessL, Nameless]) (by first | exact ⟨itemsD_nl a, itemsD_nl b, trivial⟩ | trivial | simp [NamelessL, Nameless]) ?_
  refine of_eq (B := (True ∧ (True ∧ (True ∧ ((((IOk (List.length a) (itemsD a)) ∧ (IOk (List.length b) (itemsD b))) ∧ ((hL (unI (itemsD a))) ≤ h)) ∧ (True ∧ (True ∧ (True ∧ ((D.v (Value.bool (sameL (unI (itemsD a)) (unI (itemsD b))))) = (D.v (Value.bool (sameL a b)))))))))))) (by kernel_rfl) ?_
  simp only [true_and, and_true, and_self, IsInt_lit, IsBool_lit, IsStr_lit, IsSl_lit, cellN_lit, cellL_lit, Bool.not_eq_true', Bool.not_eq_false', Bool.not_true, Bool.not_false, Int.reduceLE, Int.reduceLT, Int.reduceNeg, Nat.le_refl, Int.le_refl, Nat.reduceLT, Nat.reduceLeDiff, Nat.reduceEqDiff, D.v.injEq, D.tup.injEq, D.agg.injEq, D.ro.injEq, List.cons.injEq, Value.int.injEq, Value.bool.injEq, pcond_true, pcond_false, NamelessL, Nameless, Nat.reduceMul, Nat.reduceAdd, Nat.zero_add, Int.toNat_natCast, IOk_lit, unI_itemsD]
  obtain ⟨ih, hh, ⟨ha, hlm⟩, hb, hlb⟩ := hpre
  exact ⟨⟨⟨hlm, ha⟩, hlb, hb⟩, hh⟩
theorem same_all : ∀ h, SameIH 14 h := by
  intro h
  induction h with
  | zero => intro a b hl; omega
  | succ h ih => intro a b h1 h2 h3; exact same_pure a b h ⟨ih, by omega, h2, h3⟩
def ent_same : Ent := fun ds => match ds with
  | [.ro n xs, .ro m ys] => some (.v (.bool (sameL (unI xs) (unI ys))), IOk n xs ∧ IOk m ys)
  | _ => none
theorem ent_same_of (f : FuncId) (ha : ∀ h, SameIH f h) : EntOk Try.prog f ent_same := by
  intro ds d c hd hc; unfold ent_same at hd; split at hd
  · obtain ⟨rfl, rfl⟩ := pair_inj hd
    obtain ⟨⟨⟨h1, h2⟩, h3, h4⟩, ⟨g1, g2⟩, g3, g4⟩ := hc
    rename_i n xs m ys
    generalize unI xs = a at *
    generalize unI ys = b at *
    subst h1; subst h2; subst g1; subst g2
    exact ha _ a b (Nat.lt_succ_self _) ⟨h4, h3⟩ ⟨g4, g3⟩
  · cases hd
theorem ent_same_ok : EntOk Try.prog 14 ent_same := ent_same_of _ same_all
end Go.Proofs.Ytahiigfpikohgaa
end
