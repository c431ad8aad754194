import Derived.Test.YtahiigfpikohgaaZUo20
import Derived.Test.YtahiigfpikohgaaZUo16
section
namespace Go.Proofs.Ytahiigfpikohgaa
open Go.VD
set_option linter.unusedVariables false
set_option linter.unusedSimpArgs false
set_option maxRecDepth 100000
theorem bnot_t {b : Prop} [Decidable b] (h : (!decide b) = true) : ¬ b := by simpa using h
theorem bnot_f {b : Prop} [Decidable b] (h : (!decide b) = false) : b := by simpa using h
theorem wordsT_zero (s : ByteArray) (n : Int) (ws : List Wd) : (wordsT 0 s n ws).2.e = 1 := by simp only [wordsT]
theorem wordsT_succ (f : Nat) (s : ByteArray) (n : Int) (ws : List Wd) : wordsT (f + 1) s n ws = bif !decide ((nextT s n).e = 0) then ([], nextT s n)
    else bif !decide ((nextT s n).k = 34) then (ws, nextT s n)
    else bif decide (ws.length = 40) then ([], { nextT s n with e := 3 })
    else wordsT f (nextT s n).s (nextT s n).n (ws ++ [(nextT s n).w]) := by simp only [wordsT]
theorem wordsT_sim {u : ByteArray} (hu : U u) : ∀ (f : Nat) {s : ByteArray} {n n' : Int} {ws : List Wd}, (wordsT f s n ws).2.e = 0 → ((wordsT f s n ws).2.k ≠ 0 ∨ dl u = []) →
    (wordsT f (s ++ u) n' ws).1 = (wordsT f s n ws).1 ∧ TokSim u (wordsT f s n ws).2 (wordsT f (s ++ u) n' ws).2 := by
  intro f
  induction f with
  | zero =>
    intro s n n' ws h
    rw [wordsT_zero] at h
    exact absurd h (by decide)
  | succ f ih =>
    intro s n n' ws h hk
    have sim := @nextT_sim u hu s n n'
    rw [wordsT_succ f s n ws] at h hk ⊢
    rw [wordsT_succ f (s ++ u) n' ws]
    generalize nextT s n = t at *
    generalize nextT (s ++ u) n' = t' at *
    cases h1 : !decide (t.e = 0)
    · simp only [h1, cond_false] at h hk ⊢
      have he := bnot_f h1
      cases h2 : !decide (t.k = 34)
      · simp only [h2, cond_false] at h hk ⊢
        have hk34 := bnot_f h2
        have sim := sim he (.inl (by rw [hk34]; decide))
        rw [sim.e, sim.k, h1, h2]
        cases h3 : decide (ws.length = 40)
        · simp only [h3, cond_false] at h hk ⊢
          rw [sim.s, show t'.w = t.w by unfold Tok.w; rw [sim.t, sim.q]]
          exact ih h hk
        · simp only [h3, cond_true] at h
          exact absurd h (by decide)
      · simp only [h2, cond_true] at h hk ⊢
        have sim := sim he hk
        rw [sim.e, sim.k, h1, h2]
        exact ⟨rfl, sim⟩
    · simp only [h1, cond_true] at h
      exact absurd h (bnot_t h1)
theorem wordsR_sim {u : ByteArray} (hu : U u) {s : ByteArray} {n n' : Int} {w : Wd} (h : (wordsR s n w).2.e = 0) (hk : (wordsR s n w).2.k ≠ 0 ∨ dl u = []) :
    (wordsR (s ++ u) n' w).1 = (wordsR s n w).1 ∧ TokSim u (wordsR s n w).2 (wordsR (s ++ u) n' w).2 := by
  unfold wordsR at *; exact wordsT_sim hu 40 h hk
structure LSim (u : ByteArray) (c : Int) (x y : LR) : Prop where
  e : y.e = 0
  s : y.s = x.s ++ u
  m : y.m = x.m + c
  l : sameL y.l x.l = true
structure SSim (u : ByteArray) (c : Int) (x y : SR) : Prop where
  e : y.e = 0
  s : y.s = x.s ++ u
  m : y.m = x.m + c
  x : sameI y.x x.x = true
def RecSim (u : ByteArray) (rec : ByteArray → Int → Int → LR) : Prop := ∀ s n n' m c, RdOk s n → 0 ≤ m → m ≤ 600 → 0 ≤ c → (rec s n m).e = 0 → (rec s n m).m + c ≤ 600 → LSim u c (rec s n m) (rec (s ++ u) n' (m + c))
def StmSim (u : ByteArray) (stm : Wd → Int → ByteArray → Int → Int → SR) : Prop := ∀ w a a' s n n' m c, RdOk s n → 0 ≤ m → m ≤ 600 → 0 ≤ c → (stm w a s n m).e = 0 → (stm w a s n m).m + c ≤ 600 → SSim u c (stm w a s n m) (stm w a' (s ++ u) n' (m + c))
theorem words_self (ws : List Wd) : eqBy wdEq ws ws = true := eqBy_self (fun w => by simp [wdEq, bytes_self]) ws
theorem stmtT_sim {u : ByteArray} (hu : U u) {rec : ByteArray → Int → Int → LR} (hrec : RecSim u rec) (hfine : ∀ s n m, RdOk s n → 0 ≤ m → m ≤ 600 → Fine m (rec s n m).s (rec s n m).n (rec s n m).m) (deep : Bool) : StmSim u (stmtT rec deep) := by
  intro w a a' s n n' m c hr h0 h6 hc h hm
  have hlt := (stmtT_fine hfine deep w a hr h0 h6).2 h
  have hr2 := wordsR_ok w hr
  have hw := @wordsR_sim u hu s n n' w
  unfold stmtT at h hm hlt ⊢
  generalize wordsR s n w = r at *
  generalize wordsR (s ++ u) n' w = r' at *
  cases h1 : !headB w.t w.q
  · simp only [h1, cond_false] at h hm hlt ⊢
    cases h2 : decide (m = 600)
    · simp only [h2, cond_false] at h hm hlt ⊢
      have h2' : m ≠ 600 := by simpa using h2
      cases h3 : !decide (r.2.e = 0)
      · simp only [h3, cond_false] at h hm hlt ⊢
        have he := bnot_f h3
        have hw := hw he
        cases h4 : decide (r.2.k = 59)
        · simp only [h4, cond_false] at h hm hlt ⊢
          cases h5 : !decide (r.2.k = 123)
          · simp only [h5, cond_false] at h hm hlt ⊢
            have hk := bnot_f h5
            obtain ⟨w1, w2⟩ := hw (.inl (by rw [hk]; decide))
            cases deep
            · simp only [cond_false] at h hm hlt ⊢
              have hq := hrec r.2.s r.2.n r'.2.n (m + 1) c hr2 (by omega) (by omega) hc
              rw [w2.e, w2.k, w2.s, h3, h4, h5, w1, show m + c + 1 = m + 1 + c by omega]
              generalize rec r.2.s r.2.n (m + 1) = q at *
              generalize rec (r.2.s ++ u) r'.2.n (m + 1 + c) = q' at *
              cases h7 : !decide (q.e = 0)
              · simp only [h7, cond_false] at h hm hlt ⊢
                have hq := hq (bnot_f h7) hm
                have hmc : m + c ≠ 600 := by omega
                rw [decide_eq_false hmc, hq.e]
                simp only [cond_false, decide_true, Bool.not_true]
                refine ⟨rfl, hq.s, hq.m, ?_⟩
                simp only [sameI]
                rw [hq.l, words_self]; rfl
              · simp only [h7, cond_true] at h
                exact absurd h (bnot_t h7)
            · exact absurd (show (17 : Int) = 0 from h) (by decide)
          · simp only [h5, cond_true] at h
            exact absurd (show (6 : Int) = 0 from h) (by decide)
        · simp only [h4, cond_true] at h hm hlt ⊢
          have hk : r.2.k = 59 := by simpa using h4
          obtain ⟨w1, w2⟩ := hw (.inl (by rw [hk]; decide))
          have hmc : m + c ≠ 600 := by omega
          rw [w2.e, w2.k, w2.s, h3, h4, w1, decide_eq_false hmc]
          simp only [cond_false, cond_true]
          refine ⟨rfl, rfl, by show m + c + 1 = m + 1 + c; omega, ?_⟩
          simp only [sameI]
          rw [words_self, sameL]; rfl
      · simp only [h3, cond_true] at h
        exact absurd h (bnot_t h3)
    · simp only [h2, cond_true] at h
      exact absurd (show (3 : Int) = 0 from h) (by decide)
  · simp only [h1, cond_true] at h
    exact absurd (show (6 : Int) = 0 from h) (by decide)
def itemsU (stm : Wd → Int → ByteArray → Int → Int → SR) (last : Int) (f : Nat) (t : Tok) (m : Int) (l : List Itm) : LR :=
  bif !decide (t.e = 0) then ⟨[], t.a, t.e, t.s, t.n, m⟩
  else bif decide (t.k = last) then ⟨l, 0, 0, t.s, t.n, m⟩
  else bif !decide (t.k = 34) then ⟨[], t.a, 6, t.s, t.n, m⟩
  else bif !decide ((stm t.w t.a t.s t.n m).e = 0) then ⟨[], (stm t.w t.a t.s t.n m).a, (stm t.w t.a t.s t.n m).e, (stm t.w t.a t.s t.n m).s, (stm t.w t.a t.s t.n m).n, (stm t.w t.a t.s t.n m).m⟩
  else itemsT stm last f (stm t.w t.a t.s t.n m).s (stm t.w t.a t.s t.n m).n (stm t.w t.a t.s t.n m).m (l ++ [(stm t.w t.a t.s t.n m).x])
theorem itemsT_U (stm : Wd → Int → ByteArray → Int → Int → SR) (last : Int) (f : Nat) (s : ByteArray) (n m : Int) (l : List Itm) : itemsT stm last (f + 1) s n m l = itemsU stm last f (nextT s n) m l := rfl
theorem itemsU_ok {stm : Wd → Int → ByteArray → Int → Int → SR} {last : Int} {f : Nat} {t : Tok} {m : Int} {l : List Itm} (h : (itemsU stm last f t m l).e = 0) :
    t.e = 0 ∧ ((t.k = last ∧ itemsU stm last f t m l = ⟨l, 0, 0, t.s, t.n, m⟩) ∨ (t.k ≠ last ∧ t.k = 34 ∧ (stm t.w t.a t.s t.n m).e = 0 ∧ ∃ f', f = f' + 1 ∧
      itemsU stm last f t m l = itemsU stm last f' (nextT (stm t.w t.a t.s t.n m).s (stm t.w t.a t.s t.n m).n) (stm t.w t.a t.s t.n m).m (l ++ [(stm t.w t.a t.s t.n m).x]))) := by
  have hU : itemsU stm last f t m l = _ := rfl
  rw [hU] at h
  unfold itemsU at h hU ⊢
  cases h1 : !decide (t.e = 0)
  · simp only [h1, cond_false] at h ⊢
    refine ⟨bnot_f h1, ?_⟩
    cases h2 : decide (t.k = last)
    · simp only [h2, cond_false] at h ⊢
      cases h3 : !decide (t.k = 34)
      · simp only [h3, cond_false] at h ⊢
        cases h4 : !decide ((stm t.w t.a t.s t.n m).e = 0)
        · simp only [h4, cond_false] at h ⊢
          refine .inr ⟨by simpa using h2, bnot_f h3, bnot_f h4, ?_⟩
          cases f with
          | zero => exact absurd (show (1 : Int) = 0 from h) (by decide)
          | succ f' => refine ⟨f', rfl, ?_⟩; rw [itemsT_U]; rfl
        · simp only [h4, cond_true] at h
          exact absurd h (bnot_t h4)
      · simp only [h3, cond_true] at h
        exact absurd (show (6 : Int) = 0 from h) (by decide)
    · simp only [cond_true]
      exact .inl ⟨by simpa using h2, trivial⟩
  · simp only [h1, cond_true] at h
    exact absurd h (bnot_t h1)
theorem itemsU_err {stm : Wd → Int → ByteArray → Int → Int → SR} {last : Int} : ∀ {f : Nat} {t : Tok} {m : Int} {l : List Itm}, (itemsU stm last f t m l).e ≠ 0 → (itemsU stm last f t m l).l = []
  | f, t, m, l, h => by
    unfold itemsU at h ⊢
    cases h1 : !decide (t.e = 0)
    · simp only [h1, cond_false] at h ⊢
      cases h2 : decide (t.k = last)
      · simp only [h2, cond_false] at h ⊢
        cases h3 : !decide (t.k = 34)
        · simp only [h3, cond_false] at h ⊢
          cases h4 : !decide ((stm t.w t.a t.s t.n m).e = 0)
          · simp only [h4, cond_false] at h ⊢
            cases f with
            | zero => rfl
            | succ f' => rw [itemsT_U] at h ⊢; exact itemsU_err h
          · rfl
        · rfl
      · simp only [h2, cond_true] at h
        exact absurd rfl h
    · rfl
  termination_by f => f
theorem itemsU_last {stm : Wd → Int → ByteArray → Int → Int → SR} {last : Int} {f : Nat} {t : Tok} {m : Int} {l : List Itm} (he : t.e = 0) (hk : t.k = last) : itemsU stm last f t m l = ⟨l, 0, 0, t.s, t.n, m⟩ := by
  unfold itemsU; rw [decide_eq_true he, decide_eq_true hk]; rfl
theorem itemsU_step {stm : Wd → Int → ByteArray → Int → Int → SR} {last : Int} {f : Nat} {t : Tok} {m : Int} {l : List Itm} (he : t.e = 0) (hl : t.k ≠ last) (hk : t.k = 34) (hs : (stm t.w t.a t.s t.n m).e = 0) :
    itemsU stm last (f + 1) t m l = itemsU stm last f (nextT (stm t.w t.a t.s t.n m).s (stm t.w t.a t.s t.n m).n) (stm t.w t.a t.s t.n m).m (l ++ [(stm t.w t.a t.s t.n m).x]) := by
  conv => lhs; unfold itemsU
  rw [decide_eq_true he, decide_eq_false hl, decide_eq_true hk, decide_eq_true hs]; rfl
theorem sameL_cons {x y : Itm} {r s : List Itm} (h1 : sameI x y = true) (h2 : sameL r s = true) : sameL (x :: r) (y :: s) = true := by rw [sameL, h1, h2]; rfl
theorem itemsU_grow {stm : Wd → Int → ByteArray → Int → Int → SR} {last : Int} : ∀ (f : Nat) {t : Tok} {m : Int} {l : List Itm}, (itemsU stm last f t m l).e = 0 → ∃ d, (itemsU stm last f t m l).l = l ++ d
  | f, t, m, l, h => by
    obtain ⟨he, ⟨hk, e⟩ | ⟨hl, hk, hs, f', rfl, e⟩⟩ := itemsU_ok h
    · rw [e]; exact ⟨[], by simp⟩
    · rw [e] at h
      obtain ⟨d, hd⟩ := itemsU_grow f' h
      rw [e, hd]; exact ⟨_, List.append_assoc _ _ _⟩
  termination_by f => f
theorem items_sim {u : ByteArray} (hu : U u) {stm : Wd → Int → ByteArray → Int → Int → SR} (hstm : StmSim u stm) (hfine : ∀ w a s n m, RdOk s n → 0 ≤ m → m ≤ 600 → Fine m (stm w a s n m).s (stm w a s n m).n (stm w a s n m).m) {last c : Int} (hc : 0 ≤ c) (hlu : last ≠ 0 ∨ dl u = []) :
    ∀ (f : Nat) {t t' : Tok} {m : Int} {l l' : List Itm} (f' : Nat), RdOk t.s t.n → 0 ≤ m → m ≤ 600 → TokSim u t t' → (itemsU stm last f t m l).e = 0 → (itemsU stm last f t m l).l.length ≤ l.length + f' → (itemsU stm last f t m l).m + c ≤ 600 →
      ∃ d d', (itemsU stm last f t m l).l = l ++ d ∧ (itemsU stm last f' t' (m + c) l').l = l' ++ d' ∧ sameL d' d = true ∧ (itemsU stm last f' t' (m + c) l').e = 0 ∧ (itemsU stm last f' t' (m + c) l').s = (itemsU stm last f t m l).s ++ u ∧ (itemsU stm last f' t' (m + c) l').m = (itemsU stm last f t m l).m + c
  | f, t, t', m, l, l', f', hr, h0, h6, sim, h, hf', hm => by
    obtain ⟨he, ⟨hk, e⟩ | ⟨hl, hk, hs, f1, rfl, e⟩⟩ := itemsU_ok h
    · rw [e, itemsU_last (by rw [sim.e, he]) (by rw [sim.k, hk])]
      exact ⟨[], [], by simp, by simp, by simp [sameL], rfl, sim.s, rfl⟩
    · rw [e] at h hf' hm
      rw [e]
      obtain ⟨d0, hd0⟩ := itemsU_grow f1 h
      have hfn := hfine t.w t.a t.s t.n m hr h0 h6
      obtain ⟨f2, rfl⟩ : ∃ f2, f' = f2 + 1 := by
        refine ⟨f' - 1, ?_⟩
        rw [hd0] at hf'
        simp only [List.length_append, List.length_cons, List.length_nil] at hf'
        omega
      have hmm : (stm t.w t.a t.s t.n m).m + c ≤ 600 := by
        have := hm
        exact Int.le_trans (by
          have h3 : (stm t.w t.a t.s t.n m).m ≤ (itemsU stm last f1 (nextT (stm t.w t.a t.s t.n m).s (stm t.w t.a t.s t.n m).n) (stm t.w t.a t.s t.n m).m (l ++ [(stm t.w t.a t.s t.n m).x])).m := by
            rw [← itemsT_U]
            exact (itemsT_fine hfine last (f1 + 1) _ hfn.1 (by have := hfn.2.1; omega) hfn.2.2).2.1
          omega) this
      have ss := hstm t.w t.a t'.a t.s t.n t'.n m c hr h0 h6 hc hs hmm
      have hw' : t'.w = t.w := by unfold Tok.w; rw [sim.t, sim.q]
      rw [itemsU_step (f := f2) (by rw [sim.e, he]) (by rw [sim.k]; exact hl) (by rw [sim.k, hk]) (by rw [hw', sim.s]; exact ss.e)]
      rw [hw', sim.s, ss.s, ss.m]
      have hq0 := (itemsU_ok h).1
      have hkq : (nextT (stm t.w t.a t.s t.n m).s (stm t.w t.a t.s t.n m).n).k ≠ 0 ∨ dl u = [] := by
        rcases hlu with hlu | hlu
        · refine .inl fun e0 => ?_
          rcases (itemsU_ok h).2 with ⟨g, _⟩ | ⟨_, g, _⟩
          · exact hlu (by rw [← g, e0])
          · rw [e0] at g; exact absurd g (by decide)
        · exact .inr hlu
      have sim2 := nextT_sim hu (n' := (stm t.w t'.a (t.s ++ u) t'.n (m + c)).n) hq0 hkq
      obtain ⟨d, d', e1, e2, e3, e4, e5, e6⟩ := items_sim hu hstm hfine hc hlu f1 (l' := l' ++ [(stm t.w t'.a (t.s ++ u) t'.n (m + c)).x]) f2 (nextT_ok hfn.1) (by have := hfn.2.1; omega) hfn.2.2 sim2 h (by simp only [List.length_append, List.length_cons, List.length_nil]; omega) hm
      refine ⟨(stm t.w t.a t.s t.n m).x :: d, (stm t.w t'.a (t.s ++ u) t'.n (m + c)).x :: d', ?_, ?_, sameL_cons ss.x e3, e4, e5, e6⟩
      · rw [e1, List.append_assoc]; rfl
      · rw [e2, List.append_assoc]; rfl
  termination_by f => f
theorem items_len {stm : Wd → Int → ByteArray → Int → Int → SR} {last : Int} : ∀ (f : Nat) {t : Tok} {m : Int} {l : List Itm}, (itemsU stm last f t m l).l.length ≤ l.length + f
  | f, t, m, l => by
    by_cases h : (itemsU stm last f t m l).e = 0
    · obtain ⟨he, ⟨hk, e⟩ | ⟨hl, hk, hs, f', rfl, e⟩⟩ := itemsU_ok h
      · rw [e]; show l.length ≤ _; omega
      · rw [e]
        have := items_len (stm := stm) (last := last) f' (t := nextT (stm t.w t.a t.s t.n m).s (stm t.w t.a t.s t.n m).n) (m := (stm t.w t.a t.s t.n m).m) (l := l ++ [(stm t.w t.a t.s t.n m).x])
        simp only [List.length_append, List.length_cons, List.length_nil] at this
        omega
    · rw [itemsU_err h]; exact Nat.zero_le _
  termination_by f => f
theorem list_sim {u : ByteArray} (hu : U u) : ∀ k, (k ≤ 4 ∨ dl u = []) → RecSim u (listK k) ∧ (k ≤ 4 ∨ dl u = [] → StmSim u (stmK k))
  | 0, _ => by
    have h1 : RecSim u (listK 0) := by
      intro s n n' m c _ _ _ _ h _
      unfold listK at h; exact absurd (show (1 : Int) = 0 from h) (by decide)
    refine ⟨h1, fun _ => ?_⟩
    have := stmtT_sim hu h1 (listK_fine 0) (decide (0 = 0))
    unfold stmK; exact this
  | k + 1, hk => by
    have ih := list_sim hu k (by rcases hk with hk | hk; exact .inl (by omega); exact .inr hk)
    have h1 : RecSim u (listK (k + 1)) := by
      intro s n n' m c hr h0 h6 hc h hm
      rw [listK_succ, fuel0_eq, itemsT_U] at h hm ⊢
      rw [listK_succ, fuel0_eq, itemsT_U]
      have hst := ih.2 (by rcases hk with hk | hk; exact .inl (by omega); exact .inr hk)
      have hlu : lastK k ≠ 0 ∨ dl u = [] := by
        rcases hk with hk | hk
        · refine .inl ?_
          unfold lastK; rw [decide_eq_false (by omega)]; decide
        · exact .inr hk
      have hq0 := (itemsU_ok h).1
      have hkq : (nextT s n).k ≠ 0 ∨ dl u = [] := by
        rcases hlu with hlu | hlu
        · refine .inl fun e0 => ?_
          rcases (itemsU_ok h).2 with ⟨g, _⟩ | ⟨_, g, _⟩
          · exact hlu (by rw [← g, e0])
          · rw [e0] at g; exact absurd g (by decide)
        · exact .inr hlu
      have hfine : ∀ w a s n m, RdOk s n → 0 ≤ m → m ≤ 600 → Fine m (stmK k w a s n m).s (stmK k w a s n m).n (stmK k w a s n m).m := fun w a s n m hr h0 h6 => (stmK_fine k w a hr h0 h6).1
      obtain ⟨d, d', e1, e2, e3, e4, e5, e6⟩ := items_sim hu hst hfine hc hlu 600 (l' := []) 600 (nextT_ok hr) h0 h6 (nextT_sim hu (n' := n') hq0 hkq) h (by
        have := items_len (stm := stmK k) (last := lastK k) 600 (t := nextT s n) (m := m) (l := [])
        exact this) hm
      exact ⟨e4, e5, e6, by rw [e1, e2]; exact e3⟩
    refine ⟨h1, fun _ => ?_⟩
    have := stmtT_sim hu h1 (listK_fine (k + 1)) (decide (k + 1 = 0))
    unfold stmK; exact this
end Go.Proofs.Ytahiigfpikohgaa
end
section
namespace Go.Proofs.Ytahiigfpikohgaa
open Go.VD
set_option linter.unusedVariables false
set_option linter.unusedSimpArgs false
set_option maxRecDepth 100000
mutual
def nI : Itm → Nat
  | .mk _ _ _ ks => nL ks + 1
def nL : List Itm → Nat
  | [] => 0
  | x :: r => nI x + nL r
end
theorem nL_app : ∀ (a b : List Itm), nL (a ++ b) = nL a + nL b
  | [], b => by simp [nL]
  | x :: r, b => by rw [List.cons_append, nL, nL, nL_app r b]; omega
theorem nI_pos (x : Itm) : 1 ≤ nI x := by cases x; simp only [nI]; omega
theorem nL_len : ∀ l : List Itm, l.length ≤ nL l
  | [] => by simp
  | x :: r => by
    have := nL_len r
    have := nI_pos x
    rw [nL, List.length_cons]; omega
mutual
theorem cntI_n : ∀ x : Itm, 2 * nI x ≤ 2000000 → cntI x + 1 = nI x
  | .mk l ws b ks, h => by
    simp only [nI] at h ⊢
    have h1 := nL_len ks
    have := cntA_n ks ks.length (by omega) (by omega) (by omega)
    simp only [cntI]
    rw [this]; omega
theorem cntA_n : ∀ (l : List Itm) (n : Int), 0 ≤ n → 2 * nL l ≤ 2000000 → n + nL l ≤ 2000000 → cntA l n = n + nL l - l.length
  | [], n, _, _, _ => by simp [cntA, nL]
  | x :: r, n, h0, h2, h => by
    simp only [nL] at h h2 ⊢
    have h3 := nL_len r
    have h1 := cntI_n x (by omega)
    have h4 := nI_pos x
    rw [cntA, wrap_i64_of (by omega) (by omega), cntA_n r _ (by omega) (by omega) (by omega)]
    rw [List.length_cons]; omega
end
theorem cntL_n {l : List Itm} (h : nL l ≤ 600) : cntL l = nL l := by
  have := nL_len l
  unfold cntL; rw [cntA_n l _ (by omega) (by omega) (by omega)]; omega
theorem stmtT_ok {rec : ByteArray → Int → Int → LR} {deep : Bool} {w : Wd} {a : Int} {s : ByteArray} {n m : Int} (h : (stmtT rec deep w a s n m).e = 0) :
    m ≠ 600 ∧ ((stmtT rec deep w a s n m = ⟨.mk a (wordsR s n w).1 false [], 0, 0, (wordsR s n w).2.s, (wordsR s n w).2.n, m + 1⟩) ∨
      ((rec (wordsR s n w).2.s (wordsR s n w).2.n (m + 1)).e = 0 ∧ stmtT rec deep w a s n m = ⟨.mk a (wordsR s n w).1 true (rec (wordsR s n w).2.s (wordsR s n w).2.n (m + 1)).l, 0, 0, (rec (wordsR s n w).2.s (wordsR s n w).2.n (m + 1)).s, (rec (wordsR s n w).2.s (wordsR s n w).2.n (m + 1)).n, (rec (wordsR s n w).2.s (wordsR s n w).2.n (m + 1)).m⟩)) := by
  unfold stmtT at h ⊢
  generalize wordsR s n w = r at *
  generalize rec r.2.s r.2.n (m + 1) = q at *
  cases h1 : !headB w.t w.q
  · simp only [h1, cond_false] at h ⊢
    cases h2 : decide (m = 600)
    · simp only [h2, cond_false] at h ⊢
      refine ⟨by simpa using h2, ?_⟩
      cases h3 : !decide (r.2.e = 0)
      · simp only [h3, cond_false] at h ⊢
        cases h4 : decide (r.2.k = 59)
        · simp only [h4, cond_false] at h ⊢
          cases h5 : !decide (r.2.k = 123)
          · simp only [h5, cond_false] at h ⊢
            cases deep
            · simp only [cond_false] at h ⊢
              cases h7 : !decide (q.e = 0)
              · simp only [cond_false]
                exact .inr ⟨bnot_f h7, trivial⟩
              · simp only [h7, cond_true] at h
                exact absurd h (bnot_t h7)
            · exact absurd (show (17 : Int) = 0 from h) (by decide)
          · simp only [h5, cond_true] at h
            exact absurd (show (6 : Int) = 0 from h) (by decide)
        · simp only [cond_true]
          exact .inl trivial
      · simp only [h3, cond_true] at h
        exact absurd h (bnot_t h3)
    · simp only [h2, cond_true] at h
      exact absurd (show (3 : Int) = 0 from h) (by decide)
  · simp only [h1, cond_true] at h
    exact absurd (show (6 : Int) = 0 from h) (by decide)
def RecCnt (rec : ByteArray → Int → Int → LR) : Prop := ∀ s n m, (rec s n m).e = 0 → (rec s n m).m = m + nL (rec s n m).l
def StmCnt (stm : Wd → Int → ByteArray → Int → Int → SR) : Prop := ∀ w a s n m, (stm w a s n m).e = 0 → (stm w a s n m).m = m + nI (stm w a s n m).x
theorem stmtT_cnt {rec : ByteArray → Int → Int → LR} (hrec : RecCnt rec) (deep : Bool) : StmCnt (stmtT rec deep) := by
  intro w a s n m h
  obtain ⟨_, e | ⟨hq, e⟩⟩ := stmtT_ok h
  · rw [e]; simp [nI, nL]
  · rw [e]
    have := hrec _ _ _ hq
    show (rec _ _ _).m = m + ((nI (.mk _ _ _ (rec _ _ _).l) : Nat) : Int)
    rw [this]; simp only [nI]; omega
theorem itemsU_cnt {stm : Wd → Int → ByteArray → Int → Int → SR} (hstm : StmCnt stm) {last : Int} : ∀ (f : Nat) {t : Tok} {m : Int} {l : List Itm}, (itemsU stm last f t m l).e = 0 → (itemsU stm last f t m l).m + nL l = m + nL (itemsU stm last f t m l).l
  | f, t, m, l, h => by
    obtain ⟨he, ⟨hk, e⟩ | ⟨hl, hk, hs, f', rfl, e⟩⟩ := itemsU_ok h
    · rw [e]
    · rw [e] at h ⊢
      have h1 := itemsU_cnt hstm f' h
      have h2 := hstm _ _ _ _ _ hs
      rw [nL_app] at h1
      simp only [nL] at h1
      omega
  termination_by f => f
theorem listK_cnt : ∀ k, RecCnt (listK k) ∧ StmCnt (stmK k)
  | 0 => by
    have h1 : RecCnt (listK 0) := by
      intro s n m h; unfold listK at h; exact absurd (show (1 : Int) = 0 from h) (by decide)
    refine ⟨h1, ?_⟩
    have := stmtT_cnt h1 (decide (0 = 0))
    unfold stmK; exact this
  | k + 1 => by
    have ih := listK_cnt k
    have h1 : RecCnt (listK (k + 1)) := by
      intro s n m h
      rw [listK_succ, fuel0_eq, itemsT_U] at h ⊢
      have := itemsU_cnt ih.2 600 h
      simpa [nL] using this
    refine ⟨h1, ?_⟩
    have := stmtT_cnt h1 (decide (k + 1 = 0))
    unfold stmK; exact this
theorem endT_size (s : ByteArray) (n : Int) (w : ByteArray) (q : Bool) (a : Int) : (endT s n w q a).t.size ≤ 120 := by
  rw [endT_eq]
  cases h : decide (120 < w.size)
  · cases badB s
    · show w.size ≤ 120
      simpa using h
    · exact Nat.zero_le _
  · exact Nat.zero_le _
theorem nextT_size (s : ByteArray) (n : Int) : (nextT s n).t.size ≤ 120 := by
  rw [nextT_eq]
  generalize (skipW (s.size + 1) s n).1 = S
  generalize (skipW (s.size + 1) s n).2 = N
  unfold tokT
  cases decide (S.size = 0)
  · cases decide (bt S 0 = 59) || (decide (bt S 0 = 123) || decide (bt S 0 = 125))
    · cases decide (bt S 0 = 34)
      · cases plB (bt S 0)
        · exact Nat.zero_le _
        · exact endT_size _ _ _ _ _
      · show (quotT S N N).t.size ≤ 120
        unfold quotT
        cases decide ((rs qB (tl1 S)).size = 0)
        · cases !decide (bt (rs qB (tl1 S)) 0 = 34)
          · exact endT_size _ _ _ _ _
          · exact Nat.zero_le _
        · exact Nat.zero_le _
    · exact Nat.zero_le _
  · exact Nat.zero_le _
def WsOk (k : Nat) (ws : List Wd) : Prop := ws.length ≤ k ∧ ∀ w ∈ ws, w.t.size ≤ 120
theorem wordsT_size : ∀ (f : Nat) {s : ByteArray} {n : Int} {ws : List Wd} {k : Nat}, WsOk k ws → WsOk (k + f) (wordsT f s n ws).1 := by
  intro f
  induction f with
  | zero => intro s n ws k h; simp only [wordsT]; exact ⟨Nat.zero_le _, by simp⟩
  | succ f ih =>
    intro s n ws k h
    rw [wordsT_succ f s n ws]
    have hz := nextT_size s n
    generalize nextT s n = t at *
    cases !decide (t.e = 0)
    · cases !decide (t.k = 34)
      · cases decide (ws.length = 40)
        · have := ih (s := t.s) (n := t.n) (ws := ws ++ [t.w]) (k := k + 1) ⟨by simp only [List.length_append, List.length_cons, List.length_nil]; have := h.1; omega, fun w hw => by
            rcases List.mem_append.1 hw with hw | hw
            · exact h.2 w hw
            · rw [List.mem_singleton] at hw; subst hw; exact hz⟩
          rw [show k + (f + 1) = k + 1 + f by omega]
          exact this
        · exact ⟨Nat.zero_le _, by simp⟩
      · exact ⟨by show ws.length ≤ _; have := h.1; omega, h.2⟩
    · exact ⟨Nat.zero_le _, by simp⟩
theorem wordsR_size {s : ByteArray} {n : Int} {w : Wd} (h : w.t.size ≤ 120) : WsOk 41 (wordsR s n w).1 := by
  unfold wordsR
  exact wordsT_size 40 (k := 1) ⟨by simp, fun v hv => by rw [List.mem_singleton] at hv; subst hv; exact h⟩
theorem okL_app : ∀ {a b : List Itm}, okL a → okL b → okL (a ++ b)
  | [], b, _, h => h
  | x :: r, b, ha, hb => by
    simp only [okL] at ha
    rw [List.cons_append, okL]
    exact ⟨ha.1, okL_app ha.2 hb⟩
def RecOk (rec : ByteArray → Int → Int → LR) : Prop := ∀ s n m, (rec s n m).e = 0 → okL (rec s n m).l ∧ (rec s n m).l.length ≤ 601
def StmOk (stm : Wd → Int → ByteArray → Int → Int → SR) : Prop := ∀ w a s n m, w.t.size ≤ 120 → (stm w a s n m).e = 0 → okI (stm w a s n m).x
theorem stmtT_okI {rec : ByteArray → Int → Int → LR} (hrec : RecOk rec) (deep : Bool) : StmOk (stmtT rec deep) := by
  intro w a s n m hw h
  have hz := @wordsR_size s n w hw
  have hz1 : (wordsR s n w).1.length ≤ maxLen := by have := hz.1; unfold maxLen; omega
  have hz2 : ∀ v ∈ (wordsR s n w).1, v.t.size ≤ maxLen := fun v hv => by have := hz.2 v hv; unfold maxLen; omega
  obtain ⟨_, e | ⟨hq, e⟩⟩ := stmtT_ok h
  · rw [e]
    simp only [okI, okL]
    exact ⟨⟨hz1, Nat.zero_le _⟩, hz2, trivial⟩
  · rw [e]
    have h2 := hrec _ _ _ hq
    simp only [okI]
    exact ⟨⟨hz1, by have := h2.2; unfold maxLen; omega⟩, hz2, h2.1⟩
theorem itemsU_okL {stm : Wd → Int → ByteArray → Int → Int → SR} (hstm : StmOk stm) {last : Int} : ∀ (f : Nat) {t : Tok} {m : Int} {l : List Itm}, t.t.size ≤ 120 → okL l → (itemsU stm last f t m l).e = 0 → okL (itemsU stm last f t m l).l
  | f, t, m, l, hz, hl0, h => by
    obtain ⟨he, ⟨hk, e⟩ | ⟨hl, hk, hs, f', rfl, e⟩⟩ := itemsU_ok h
    · rw [e]; exact hl0
    · rw [e] at h ⊢
      exact itemsU_okL hstm f' (nextT_size _ _) (okL_app hl0 (by simp only [okL]; exact ⟨hstm _ _ _ _ _ hz hs, trivial⟩)) h
  termination_by f => f
theorem listK_okL : ∀ k, RecOk (listK k) ∧ StmOk (stmK k)
  | 0 => by
    have h1 : RecOk (listK 0) := by
      intro s n m h; unfold listK at h; exact absurd (show (1 : Int) = 0 from h) (by decide)
    refine ⟨h1, ?_⟩
    have := stmtT_okI h1 (decide (0 = 0))
    unfold stmK; exact this
  | k + 1 => by
    have ih := listK_okL k
    have h1 : RecOk (listK (k + 1)) := by
      intro s n m h
      rw [listK_succ, fuel0_eq, itemsT_U] at h ⊢
      refine ⟨itemsU_okL ih.2 600 (nextT_size _ _) (by simp only [okL]) h, ?_⟩
      have := items_len (stm := stmK k) (last := lastK k) 600 (t := nextT s n) (m := m) (l := [])
      simp only [List.length_nil] at this
      omega
    refine ⟨h1, ?_⟩
    have := stmtT_okI h1 (decide (k + 1 = 0))
    unfold stmK; exact this
theorem parseT_eq (s : ByteArray) : parseT s = bif decide (12000 < s.size) then ⟨[], 0, 4, ⟨#[]⟩, 0, 0⟩ else listK 5 s 1 0 := by unfold parseT; rfl
theorem lastK4 : lastK 4 = 0 := rfl
theorem parseT_ok {s : ByteArray} (h : (parseT s).e = 0) : s.size ≤ 12000 ∧ parseT s = itemsU (stmK 4) 0 600 (nextT s 1) 0 [] := by
  rw [parseT_eq] at h ⊢
  cases h1 : decide (12000 < s.size)
  · refine ⟨by simpa using h1, ?_⟩
    rw [cond_false, listK_succ, fuel0_eq, itemsT_U, lastK4]
  · rw [h1] at h; exact absurd (show (4 : Int) = 0 from h) (by decide)
theorem parseT_okL {s : ByteArray} (h : (parseT s).e = 0) : okL (parseT s).l ∧ (parseT s).l.length ≤ 601 ∧ (parseT s).m = nL (parseT s).l ∧ nL (parseT s).l ≤ 600 := by
  obtain ⟨h1, _⟩ := parseT_ok h
  have hr : RdOk s 1 := ⟨by omega, by omega⟩
  have e : parseT s = listK 5 s 1 0 := by rw [parseT_eq, decide_eq_false (show ¬ 12000 < s.size by omega), cond_false]
  rw [e] at h ⊢
  have a1 := (listK_okL 5).1 _ _ _ h
  have a2 := (listK_cnt 5).1 _ _ _ h
  have a3 := listK_fine 5 s 1 0 hr (by omega) (by omega)
  refine ⟨a1.1, a1.2, by omega, ?_⟩
  have := a3.2.2
  omega
theorem items_concat {t u : ByteArray} (hu : dl u = 10 :: dl t) {stm : Wd → Int → ByteArray → Int → Int → SR} (hstm : StmSim u stm) (hstm0 : StmSim ⟨#[]⟩ stm) (hfine : ∀ w a s n m, RdOk s n → 0 ≤ m → m ≤ 600 → Fine m (stm w a s n m).s (stm w a s n m).n (stm w a s n m).m)
    (ht : RdOk t 1) (hB : (itemsU stm 0 600 (nextT t 1) 0 []).e = 0) : ∀ (f : Nat) {t1 t2 : Tok} {m : Int} {l l2 : List Itm} (f2 : Nat), RdOk t1.s t1.n → 0 ≤ m → m ≤ 600 → (t1.k ≠ 0 → TokSim u t1 t2) → (t1.k = 0 → TokSim ⟨#[]⟩ (nextT t 1) t2) →
      (itemsU stm 0 f t1 m l).e = 0 → (itemsU stm 0 f t1 m l).m + (itemsU stm 0 600 (nextT t 1) 0 []).m ≤ 600 → (itemsU stm 0 f t1 m l).l.length + (itemsU stm 0 600 (nextT t 1) 0 []).l.length ≤ l.length + f2 →
      ∃ d d', (itemsU stm 0 f t1 m l).l = l ++ d ∧ (itemsU stm 0 f2 t2 m l2).l = l2 ++ d' ∧ sameL d' (d ++ (itemsU stm 0 600 (nextT t 1) 0 []).l) = true ∧ (itemsU stm 0 f2 t2 m l2).e = 0
  | f, t1, t2, m, l, l2, f2, hr, h0, h6, s1, s2, h, hm, hl => by
    obtain ⟨he, ⟨hk, e⟩ | ⟨hk0, hk, hs, f1, rfl, e⟩⟩ := itemsU_ok h
    · rw [e] at hm hl ⊢
      have hm : m + (itemsU stm 0 600 (nextT t 1) 0 []).m ≤ 600 := hm
      have hl : l.length + (itemsU stm 0 600 (nextT t 1) 0 []).l.length ≤ l.length + f2 := hl
      obtain ⟨d, d', e1, e2, e3, e4, _, _⟩ := items_sim (u := ⟨#[]⟩) (.inl rfl) hstm0 hfine (last := 0) (c := m) h0 (.inr rfl) 600 (t := nextT t 1) (t' := t2) (m := 0) (l := []) (l' := l2) f2 (nextT_ok ht) (by omega) (by omega) (s2 hk) hB (by simp only [List.length_nil]; omega) (by omega)
      rw [Int.zero_add] at e2 e4
      refine ⟨[], d', by simp, e2, ?_, e4⟩
      rw [List.nil_append, e1, List.nil_append]; exact e3
    · have sim := s1 hk0
      rw [e] at h hm hl ⊢
      obtain ⟨d0, hd0⟩ := itemsU_grow f1 h
      have hfn := hfine t1.w t1.a t1.s t1.n m hr h0 h6
      obtain ⟨f3, rfl⟩ : ∃ f3, f2 = f3 + 1 := by
        refine ⟨f2 - 1, ?_⟩
        rw [hd0] at hl
        simp only [List.length_append, List.length_cons, List.length_nil] at hl
        omega
      have uu : U u := .inr ⟨_, hu⟩
      have ss := hstm t1.w t1.a t2.a t1.s t1.n t2.n m 0 hr h0 h6 (Int.le_refl 0) hs (by have := hfn.2.2; omega)
      rw [Int.add_zero] at ss
      have hw' : t2.w = t1.w := by unfold Tok.w; rw [sim.t, sim.q]
      rw [itemsU_step (f := f3) (by rw [sim.e, he]) (by rw [sim.k]; exact hk0) (by rw [sim.k, hk]) (by rw [hw', sim.s]; exact ss.e)]
      rw [hw', sim.s, ss.s, ss.m, Int.add_zero]
      have hq0 := (itemsU_ok h).1
      obtain ⟨d, d', e1, e2, e3, e4⟩ := items_concat hu hstm hstm0 hfine ht hB f1 (l2 := l2 ++ [(stm t1.w t2.a (t1.s ++ u) t2.n m).x]) f3 (nextT_ok hfn.1) (by have := hfn.2.1; omega) hfn.2.2
        (fun hk => nextT_sim uu (n' := (stm t1.w t2.a (t1.s ++ u) t2.n m).n) hq0 (.inl hk)) (fun hk => nextT_end hu (n' := (stm t1.w t2.a (t1.s ++ u) t2.n m).n) hq0 hk (itemsU_ok hB).1) h hm (by simp only [List.length_append, List.length_cons, List.length_nil]; omega)
      refine ⟨(stm t1.w t1.a t1.s t1.n m).x :: d, (stm t1.w t2.a (t1.s ++ u) t2.n m).x :: d', ?_, ?_, ?_, e4⟩
      · rw [e1, List.append_assoc]; rfl
      · rw [e2, List.append_assoc]; rfl
      · rw [List.cons_append]; exact sameL_cons ss.x e3
  termination_by f => f
theorem parse_concat {s t : ByteArray} (hs : (parseT s).e = 0) (ht : (parseT t).e = 0) (hz : s.size + t.size + 1 ≤ 12000) (hn : nL (parseT s).l + nL (parseT t).l ≤ 600) :
    (parseT (s ++ ⟨#[10]⟩ ++ t)).e = 0 ∧ sameL (parseT (s ++ ⟨#[10]⟩ ++ t)).l ((parseT s).l ++ (parseT t).l) = true := by
  have os := parseT_okL hs
  have ot := parseT_okL ht
  obtain ⟨zs, es⟩ := parseT_ok hs
  obtain ⟨zt, et⟩ := parseT_ok ht
  have hu : dl ((⟨#[10]⟩ : ByteArray) ++ t) = 10 :: dl t := by rw [dl_app]; rfl
  have ea : s ++ ⟨#[10]⟩ ++ t = s ++ ((⟨#[10]⟩ : ByteArray) ++ t) := ba_ext (by rw [dl_app, dl_app, dl_app, dl_app, List.append_assoc])
  rw [ea]
  have uu : U ((⟨#[10]⟩ : ByteArray) ++ t) := .inr ⟨_, hu⟩
  have zu : (s ++ ((⟨#[10]⟩ : ByteArray) ++ t)).size = s.size + t.size + 1 := by
    rw [app_size, app_size]; show s.size + (1 + t.size) = _; omega
  generalize ((⟨#[10]⟩ : ByteArray) ++ t) = u at *
  have hfine : ∀ w a s n m, RdOk s n → 0 ≤ m → m ≤ 600 → Fine m (stmK 4 w a s n m).s (stmK 4 w a s n m).n (stmK 4 w a s n m).m := fun w a s n m hr h0 h6 => (stmK_fine 4 w a hr h0 h6).1
  have eu : parseT (s ++ u) = itemsU (stmK 4) 0 600 (nextT (s ++ u) 1) 0 [] := by
    rw [parseT_eq, decide_eq_false (show ¬ 12000 < (s ++ u).size by omega), cond_false, listK_succ, fuel0_eq, itemsT_U, lastK4]
  have rs1 : RdOk s 1 := ⟨by omega, by omega⟩
  have rt1 : RdOk t 1 := ⟨by omega, by omega⟩
  have ns := nL_len (parseT s).l
  have nt := nL_len (parseT t).l
  have ms := os.2.2.1
  have mt := ot.2.2.1
  rw [es] at hs
  rw [et] at ht
  have hq0 := (itemsU_ok hs).1
  have st := (list_sim uu 4 (.inl (by omega))).2 (.inl (by omega))
  have st0 := (list_sim (u := ⟨#[]⟩) (.inl rfl) 4 (.inl (by omega))).2 (.inl (by omega))
  obtain ⟨d, d', e1, e2, e3, e4⟩ := items_concat hu st st0 hfine rt1 ht 600 (t1 := nextT s 1) (t2 := nextT (s ++ u) 1) (m := 0) (l := []) (l2 := []) 600 (nextT_ok rs1) (by omega) (by omega)
    (fun hk => nextT_sim uu hq0 (.inl hk)) (fun hk => nextT_end hu hq0 hk (itemsU_ok ht).1) hs (by rw [← es, ← et]; omega) (by rw [← es, ← et]; simp only [List.length_nil]; omega)
  rw [← eu] at e2 e4
  rw [← es] at e1
  rw [← et] at e3
  refine ⟨e4, ?_⟩
  rw [e2, e1]; exact e3
end Go.Proofs.Ytahiigfpikohgaa
end
section
namespace Go.Proofs.Ytahiigfpikohgaa
open Go.VD
set_option linter.unusedVariables false
set_option linter.unusedSimpArgs false
set_option maxRecDepth 100000
theorem spN_all_iff {p : Nat → Bool} {s : ByteArray} : spN p s = s.size ↔ ∀ b ∈ dl s, p b.toNat = true := by
  unfold spN
  rw [size_list, List.findIdx_eq_length]
  exact ⟨fun h b hb => by simpa using h b hb, fun h b hb => by simpa using h b hb⟩
theorem takeWhile_mem {p : UInt8 → Bool} : ∀ (l : List UInt8) (b : UInt8), b ∈ l.takeWhile p → p b = true
  | [], b, h => by simp at h
  | c :: r, b, h => by
    rw [List.takeWhile_cons] at h
    cases hc : p c
    · rw [hc] at h; simp at h
    · rw [hc] at h
      simp only [if_true] at h
      rcases List.mem_cons.1 h with rfl | h
      · exact hc
      · exact takeWhile_mem r b h
theorem tk_all (p : Nat → Bool) (s : ByteArray) : spN p (tk p s) = (tk p s).size := spN_all_iff.2 fun b hb => by
  rw [tk_dl] at hb
  exact takeWhile_mem (p := fun b => p b.toNat) (dl s) b hb
theorem wordE_iff (s : ByteArray) (q : Bool) : wordE s q = 0 ↔ s.size ≤ 120 ∧ (q = true → spN qB s = s.size) ∧ (q = false → s.size ≠ 0 ∧ spN plB s = s.size) := by
  unfold wordE plainOk
  have h1 := spN_le qB s
  by_cases h : s.size ≤ 120
  · rw [decide_eq_false (show ¬ 120 < s.size by omega), cond_false]
    cases q
    · simp only [Bool.false_and, cond_false, Bool.not_false, Bool.true_and]
      by_cases h0 : s.size = 0 <;> by_cases h2 : spN plB s = s.size <;> simp [h0, h2, h] <;> omega
    · simp only [Bool.true_and, Bool.not_true, Bool.false_and, cond_false]
      by_cases h2 : spN qB s = s.size
      · simp [h2, h]
      · rw [decide_eq_true (show spN qB s < s.size by omega)]; simp [h2]
  · rw [decide_eq_true (show 120 < s.size by omega)]; simp; omega
mutual
def gI : Itm → Nat → Prop
  | .mk _ ws b ks, k => (ws.length ≤ 40 ∧ (∀ w ∈ ws, wordE w.t w.q = 0) ∧ ∃ w r, ws = w :: r ∧ headB w.t w.q = true) ∧ ((b = false ∧ ks = []) ∨ (b = true ∧ ∃ j, k = j + 1 ∧ gL ks j))
def gL : List Itm → Nat → Prop
  | [], _ => True
  | x :: r, k => gI x k ∧ gL r k
end
theorem gL_app : ∀ {a b : List Itm} {k : Nat}, gL a k → gL b k → gL (a ++ b) k
  | [], b, k, _, h => h
  | x :: r, b, k, ha, hb => by
    simp only [gL] at ha
    rw [List.cons_append, gL]
    exact ⟨ha.1, gL_app ha.2 hb⟩
theorem endT_word {s : ByteArray} {n : Int} {w : ByteArray} {q : Bool} {a : Int} (h : (endT s n w q a).e = 0) : (endT s n w q a).t = w ∧ (endT s n w q a).q = q ∧ w.size ≤ 120 := by
  rw [endT_eq] at h ⊢
  cases h1 : decide (120 < w.size)
  · rw [h1] at h
    cases h2 : badB s
    · exact ⟨rfl, rfl, by simpa using h1⟩
    · rw [h2] at h; exact absurd (show (6 : Int) = 0 from h) (by decide)
  · rw [h1] at h; exact absurd (show (4 : Int) = 0 from h) (by decide)
theorem nextT_word {s : ByteArray} {n : Int} (h : (nextT s n).e = 0) (hk : (nextT s n).k = 34) : wordE (nextT s n).t (nextT s n).q = 0 := by
  rw [nextT_eq] at h hk ⊢
  generalize (skipW (s.size + 1) s n).1 = S at *
  generalize (skipW (s.size + 1) s n).2 = N at *
  unfold tokT at h hk ⊢
  cases h1 : decide (S.size = 0)
  · simp only [h1, cond_false] at h hk ⊢
    have h1' : S.size ≠ 0 := by simpa using h1
    cases h2 : decide (bt S 0 = 59) || (decide (bt S 0 = 123) || decide (bt S 0 = 125))
    · simp only [h2, cond_false] at h hk ⊢
      cases h3 : decide (bt S 0 = 34)
      · simp only [h3, cond_false] at h hk ⊢
        cases h4 : plB (bt S 0)
        · simp only [h4, cond_false] at h
          exact absurd h (by decide)
        · simp only [h4, cond_true] at h hk ⊢
          obtain ⟨e1, e2, e3⟩ := endT_word h
          rw [e1, e2, wordE_iff]
          exact ⟨e3, ⟨(fun h => nomatch h), fun _ => ⟨by rw [tk_size]; have := spN_pos h1' h4; omega, tk_all _ _⟩⟩⟩
      · simp only [h3, cond_true] at h hk ⊢
        unfold quotT at h hk ⊢
        cases h5 : decide ((rs qB (tl1 S)).size = 0)
        · simp only [h5, cond_false] at h hk ⊢
          cases h6 : !decide (bt (rs qB (tl1 S)) 0 = 34)
          · simp only [h6, cond_false] at h hk ⊢
            obtain ⟨e1, e2, e3⟩ := endT_word h
            rw [e1, e2, wordE_iff]
            exact ⟨e3, fun _ => tk_all _ _, fun h => by cases h⟩
          · simp only [h6, cond_true] at h
            exact absurd h (by decide)
        · simp only [h5, cond_true] at h
          exact absurd h (by decide)
    · simp only [h2, cond_true] at hk
      simp only [Bool.or_eq_true, decide_eq_true_eq] at h2
      omega
  · simp only [h1, cond_true] at hk
    exact absurd hk (by decide)
theorem wordsT_good : ∀ (f : Nat) {s : ByteArray} {n : Int} {ws : List Wd}, ws.length ≤ 40 → (∀ w ∈ ws, wordE w.t w.q = 0) → (wordsT f s n ws).2.e = 0 →
    ((wordsT f s n ws).1.length ≤ 40 ∧ ∀ w ∈ (wordsT f s n ws).1, wordE w.t w.q = 0) ∧ ∃ r, (wordsT f s n ws).1 = ws ++ r := by
  intro f
  induction f with
  | zero =>
    intro s n ws _ _ h
    rw [wordsT_zero] at h
    exact absurd h (by decide)
  | succ f ih =>
    intro s n ws hl hg h
    have hw := @nextT_word s n
    rw [wordsT_succ f s n ws] at h ⊢
    generalize nextT s n = t at *
    cases h1 : !decide (t.e = 0)
    · simp only [h1, cond_false] at h ⊢
      cases h2 : !decide (t.k = 34)
      · simp only [h2, cond_false] at h ⊢
        cases h3 : decide (ws.length = 40)
        · simp only [h3, cond_false] at h ⊢
          have h3' : ws.length ≠ 40 := by simpa using h3
          obtain ⟨a1, r, a2⟩ := ih (by simp only [List.length_append, List.length_cons, List.length_nil]; omega) (fun w hw' => by
            rcases List.mem_append.1 hw' with hw' | hw'
            · exact hg w hw'
            · rw [List.mem_singleton] at hw'; subst hw'; exact hw (bnot_f h1) (bnot_f h2)) h
          exact ⟨a1, [t.w] ++ r, by rw [a2, List.append_assoc]⟩
        · simp only [h3, cond_true] at h
          exact absurd h (by decide)
      · simp only [cond_true]
        exact ⟨⟨hl, hg⟩, [], by simp⟩
    · simp only [h1, cond_true] at h
      exact absurd h (bnot_t h1)
theorem wordsR_good {s : ByteArray} {n : Int} {w : Wd} (hw : wordE w.t w.q = 0) (h : (wordsR s n w).2.e = 0) : ((wordsR s n w).1.length ≤ 40 ∧ ∀ v ∈ (wordsR s n w).1, wordE v.t v.q = 0) ∧ ∃ r, (wordsR s n w).1 = w :: r := by
  unfold wordsR at *
  exact wordsT_good 40 (by simp) (fun v hv => by rw [List.mem_singleton] at hv; subst hv; exact hw) h
theorem stmtT_ok2 {rec : ByteArray → Int → Int → LR} {deep : Bool} {w : Wd} {a : Int} {s : ByteArray} {n m : Int} (h : (stmtT rec deep w a s n m).e = 0) : headB w.t w.q = true ∧ (wordsR s n w).2.e = 0 ∧
    ((stmtT rec deep w a s n m).x = .mk a (wordsR s n w).1 false [] ∨ (deep = false ∧ (rec (wordsR s n w).2.s (wordsR s n w).2.n (m + 1)).e = 0 ∧ (stmtT rec deep w a s n m).x = .mk a (wordsR s n w).1 true (rec (wordsR s n w).2.s (wordsR s n w).2.n (m + 1)).l)) := by
  unfold stmtT at h ⊢
  generalize wordsR s n w = r at *
  generalize rec r.2.s r.2.n (m + 1) = q at *
  cases h1 : !headB w.t w.q
  · simp only [h1, cond_false] at h ⊢
    refine ⟨by simpa using h1, ?_⟩
    cases h2 : decide (m = 600)
    · simp only [h2, cond_false] at h ⊢
      cases h3 : !decide (r.2.e = 0)
      · simp only [h3, cond_false] at h ⊢
        refine ⟨bnot_f h3, ?_⟩
        cases h4 : decide (r.2.k = 59)
        · simp only [h4, cond_false] at h ⊢
          cases h5 : !decide (r.2.k = 123)
          · simp only [h5, cond_false] at h ⊢
            cases deep
            · simp only [cond_false] at h ⊢
              cases h7 : !decide (q.e = 0)
              · exact .inr ⟨trivial, bnot_f h7, rfl⟩
              · simp only [h7, cond_true] at h
                exact absurd h (bnot_t h7)
            · exact absurd (show (17 : Int) = 0 from h) (by decide)
          · simp only [h5, cond_true] at h
            exact absurd (show (6 : Int) = 0 from h) (by decide)
        · exact .inl rfl
      · simp only [h3, cond_true] at h
        exact absurd h (bnot_t h3)
    · simp only [h2, cond_true] at h
      exact absurd (show (3 : Int) = 0 from h) (by decide)
  · simp only [h1, cond_true] at h
    exact absurd (show (6 : Int) = 0 from h) (by decide)
theorem itemsU_good {k : Nat} {stm : Wd → Int → ByteArray → Int → Int → SR} (hstm : ∀ w a s n m, wordE w.t w.q = 0 → (stm w a s n m).e = 0 → gI (stm w a s n m).x k) {last : Int} : ∀ (f : Nat) {s : ByteArray} {n : Int} {m : Int} {l : List Itm}, gL l k → (itemsU stm last f (nextT s n) m l).e = 0 → gL (itemsU stm last f (nextT s n) m l).l k
  | f, s, n, m, l, hl0, h => by
    obtain ⟨he, ⟨hk, e⟩ | ⟨hl, hk, hs, f', rfl, e⟩⟩ := itemsU_ok h
    · rw [e]; exact hl0
    · rw [e] at h ⊢
      exact itemsU_good hstm f' (gL_app hl0 (by simp only [gL]; exact ⟨hstm _ _ _ _ _ (nextT_word he hk) hs, trivial⟩)) h
  termination_by f => f
theorem stmK_good {k : Nat} (ih : ∀ j, k = j + 1 → ∀ s n m, (listK (j + 1) s n m).e = 0 → gL (listK (j + 1) s n m).l j) : ∀ w a s n m, wordE w.t w.q = 0 → (stmK k w a s n m).e = 0 → gI (stmK k w a s n m).x k := by
  intro w a s n m hw h
  unfold stmK at h ⊢
  obtain ⟨a1, a2, a3⟩ := stmtT_ok2 h
  obtain ⟨⟨b1, b2⟩, r, b3⟩ := wordsR_good hw a2
  rcases a3 with e | ⟨hd, hq, e⟩
  · rw [e, gI]
    exact ⟨⟨b1, b2, w, r, b3, a1⟩, .inl ⟨rfl, rfl⟩⟩
  · rw [e, gI]
    have hk : k ≠ 0 := by simpa using hd
    obtain ⟨j, rfl⟩ : ∃ j, k = j + 1 := ⟨k - 1, by omega⟩
    exact ⟨⟨b1, b2, w, r, b3, a1⟩, .inr ⟨rfl, j, rfl, ih j rfl _ _ _ hq⟩⟩
theorem listK_good1 {k : Nat} (h1 : ∀ w a s n m, wordE w.t w.q = 0 → (stmK k w a s n m).e = 0 → gI (stmK k w a s n m).x k) : ∀ s n m, (listK (k + 1) s n m).e = 0 → gL (listK (k + 1) s n m).l k := by
  intro s n m h
  rw [listK_succ, fuel0_eq, itemsT_U] at h ⊢
  exact itemsU_good h1 600 (by rw [gL]; trivial) h
theorem listK_good : ∀ k s n m, (listK (k + 1) s n m).e = 0 → gL (listK (k + 1) s n m).l k
  | 0 => listK_good1 (stmK_good fun j hj => by omega)
  | k + 1 => listK_good1 (stmK_good fun j hj => by
      obtain rfl : k = j := by omega
      exact listK_good k)
theorem parseT_good {s : ByteArray} (h : (parseT s).e = 0) : gL (parseT s).l 4 := by
  obtain ⟨h1, _⟩ := parseT_ok h
  have e : parseT s = listK 5 s 1 0 := by rw [parseT_eq, decide_eq_false (show ¬ 12000 < s.size by omega), cond_false]
  rw [e] at h ⊢
  exact listK_good 4 _ _ _ h
theorem wordsE_zero : ∀ {ws : List Wd}, (∀ w ∈ ws, wordE w.t w.q = 0) → wordsE ws = 0
  | [], _ => rfl
  | w :: r, h => by
    rw [wordsE, h w (by simp), wordsE_zero fun v hv => h v (by simp [hv])]; rfl
theorem itemE_zero {x : Itm} {k : Nat} (h : gI x k) : itemE x = 0 := by
  cases x with
  | mk l ws b ks =>
    simp only [gI] at h
    obtain ⟨⟨h1, h2, w, r, rfl, h3⟩, h4⟩ := h
    have e : itemE (.mk l (w :: r) b ks) = bif decide ((w :: r).length = 0) || !headB ((w :: r).getD 0 default).t ((w :: r).getD 0 default).q then 6 else bif decide (40 < (w :: r).length) then 3 else
      bif !decide (wordsE (w :: r) = 0) then wordsE (w :: r) else bif !b && decide (0 < ks.length) then 12 else 0 := rfl
    rw [e, decide_eq_true (wordsE_zero h2), decide_eq_false (show ¬ (w :: r).length = 0 by simp), List.getD_cons_zero, h3, decide_eq_false (show ¬ 40 < (w :: r).length by omega)]
    rcases h4 with ⟨rfl, rfl⟩ | ⟨rfl, _⟩ <;> rfl
mutual
theorem chkI_good : ∀ (x : Itm) (k d c : Nat), gI x k → d + k = 4 → c + nI x ≤ 600 → chkI x d c = (0, c + nI x)
  | .mk l ws b ks, k, d, c, h, hd, hc => by
    have h0 := itemE_zero h
    simp only [nI] at hc ⊢
    rw [chkI, h0, decide_eq_false (show ¬ 600 ≤ c by omega), decide_eq_false (show ¬ 4 < d by omega)]
    simp only [gI] at h
    rcases h.2 with ⟨_, rfl⟩ | ⟨_, j, rfl, hg⟩
    · simp [chkL, nL]
    · have := chkL_good ks j (d + 1) (c + 1) hg (by omega) (by omega)
      simp only [cond_false, decide_true, Bool.not_true]
      rw [this, show c + 1 + nL ks = c + (nL ks + 1) by omega]
theorem chkL_good : ∀ (l : List Itm) (k d c : Nat), gL l k → d + k = 4 → c + nL l ≤ 600 → chkL l d c = (0, c + nL l)
  | [], k, d, c, _, _, _ => by simp [chkL, nL]
  | x :: r, k, d, c, h, hd, hc => by
    simp only [gL] at h
    simp only [nL] at hc ⊢
    rw [chkL, chkI_good x k d c h.1 hd (by omega)]
    simp only [decide_true, cond_true]
    rw [chkL_good r k d (c + nI x) h.2 hd (by omega), show c + nI x + nL r = c + (nI x + nL r) by omega]
end
theorem chkE_good {l : List Itm} (h : gL l 4) (hn : nL l ≤ 600) : chkE l = 0 := by
  unfold chkE; rw [chkL_good l 4 0 0 h rfl (by omega)]
theorem parseT_err {s : ByteArray} (h : (parseT s).e ≠ 0) : (parseT s).l = [] := by
  rw [parseT_eq] at h ⊢
  cases h1 : decide (12000 < s.size)
  · rw [h1, cond_false, listK_succ, fuel0_eq, itemsT_U] at h
    rw [cond_false, listK_succ, fuel0_eq, itemsT_U]
    exact itemsU_err h
  · rfl
theorem eq_of_bytes {a b : ByteArray} (h : (a == b) = true) : a = b := by
  cases a with
  | mk x => cases b with
    | mk y =>
      have : (x == y) = true := h
      rw [beq_iff_eq] at this
      rw [this]
mutual
theorem fmtI_same : ∀ (x y : Itm) (ind : List UInt8), sameI x y = true → fmtI x ind = fmtI y ind
  | .mk _ ws b ks, .mk _ ws' b' ks', ind, h => by
    simp only [sameI, Bool.and_eq_true, beq_iff_eq] at h
    obtain ⟨rfl, h1, h2⟩ := h
    have hw : ∀ (a b : List Wd), eqBy wdEq a b = true → a = b := by
      intro a
      induction a with
      | nil => intro b h; cases b with
        | nil => rfl
        | cons y s => cases h
      | cons x r ih => intro b h; cases b with
        | nil => cases h
        | cons y s =>
          rw [eqBy, Bool.and_eq_true] at h
          rw [ih s h.2]
          have h3 := h.1
          unfold wdEq at h3
          rw [Bool.and_eq_true] at h3
          cases x; cases y
          simp only at h3
          obtain ⟨g1, g2⟩ := h3
          rw [beq_iff_eq.1 g2, eq_of_bytes g1]
    rw [fmtI, fmtI, hw _ _ h1, fmtL_same ks ks' _ h2]
theorem fmtL_same : ∀ (a b : List Itm) (ind : List UInt8), sameL a b = true → fmtL a ind = fmtL b ind
  | [], [], ind, _ => rfl
  | [], y :: s, ind, h => by simp [sameL] at h
  | x :: r, [], ind, h => by simp [sameL] at h
  | x :: r, y :: s, ind, h => by
    rw [sameL, Bool.and_eq_true] at h
    rw [fmtL, fmtL, fmtI_same x y ind h.1, fmtL_same r s ind h.2]
end
end Go.Proofs.Ytahiigfpikohgaa
end
section
namespace Go.Proofs.Ytahiigfpikohgaa
open Go.VD
set_option linter.unusedVariables false
set_option linter.unusedSimpArgs false
set_option maxRecDepth 100000
def Wh (l : List UInt8) : Prop := ∀ b ∈ l, whB b.toNat = true
theorem Wh.app {a b : List UInt8} (h : Wh a) (g : Wh b) : Wh (a ++ b) := fun x hx => by
  rcases List.mem_append.1 hx with hx | hx
  · exact h x hx
  · exact g x hx
theorem wsk_sp {sp : List UInt8} (h : Wh sp) (l : List UInt8) : wsk false (sp ++ l) = wsk false l := by
  induction sp with
  | nil => rfl
  | cons c r ih =>
    rw [List.cons_append, wsk, h c (by simp), cond_true, ih fun b hb => h b (by simp [hb])]
theorem drop_all {p : UInt8 → Bool} : ∀ {w R : List UInt8}, (∀ b ∈ w, p b = true) → (∀ c r, R = c :: r → p c = false) → (w ++ R).dropWhile p = R ∧ (w ++ R).takeWhile p = w
  | [], R, _, h2 => by
    cases R with
    | nil => exact ⟨rfl, rfl⟩
    | cons c r =>
      have := h2 c r rfl
      simp [List.dropWhile_cons, List.takeWhile_cons, this]
  | b :: w, R, h1, h2 => by
    obtain ⟨g1, g2⟩ := drop_all (w := w) (R := R) (fun b hb => h1 b (by simp [hb])) h2
    rw [List.cons_append, List.dropWhile_cons, List.takeWhile_cons, h1 b (by simp)]
    exact ⟨g1, by simp only [if_true]; rw [g2]⟩
theorem next_at {s : ByteArray} {n : Int} {sp l : List UInt8} (hsp : Wh sp) (hs : dl s = sp ++ l) (hl : ∀ c r, l = c :: r → whB c.toNat = false ∧ c ≠ 35) : ∃ S N, nextT s n = tokT S N ∧ dl S = l := by
  refine ⟨_, _, nextT_eq s n, ?_⟩
  rw [skipW_dl _ s n (Nat.lt_succ_self _), hs, wsk_sp hsp, wsk_stop l hl]
theorem next_mark {s : ByteArray} {n : Int} {sp R : List UInt8} {c : UInt8} (hsp : Wh sp) (hs : dl s = sp ++ c :: R) (hc : c = 59 ∨ c = 123 ∨ c = 125) : (nextT s n).e = 0 ∧ (nextT s n).k = c.toNat ∧ dl (nextT s n).s = R := by
  obtain ⟨S, N, e, hS⟩ := next_at (n := n) hsp hs (by
    intro c' r h
    injection h with h1 h2
    subst h1
    rcases hc with rfl | rfl | rfl <;> exact ⟨by decide, by decide⟩)
  rw [e]
  have h0 : S.size ≠ 0 := by rw [size_list, show S.data.toList = c :: R from hS]; simp
  have hb : bt S 0 = c.toNat := by rw [bt_dl, hS]; rfl
  have hm : (decide (bt S 0 = 59) || (decide (bt S 0 = 123) || decide (bt S 0 = 125))) = true := by
    rw [hb]; rcases hc with rfl | rfl | rfl <;> decide
  have et : tokT S N = ⟨bt S 0, ⟨#[]⟩, false, N, 0, tl1 S, N⟩ := by
    unfold tokT; rw [decide_eq_false h0, cond_false, hm, cond_true]
  rw [et]
  exact ⟨rfl, by rw [hb], by show dl (tl1 S) = R; rw [tl1_dl, hS]; rfl⟩
theorem next_none {s : ByteArray} {n : Int} (hs : Wh (dl s)) : (nextT s n).e = 0 ∧ (nextT s n).k = 0 ∧ dl (nextT s n).s = [] := by
  obtain ⟨S, N, e, hS⟩ := next_at (n := n) (sp := dl s) (l := []) hs (by rw [List.append_nil]) (by simp)
  rw [e, tokT_zero (size0.2 hS)]
  exact ⟨rfl, rfl, hS⟩
theorem dl_eq_nil {s : ByteArray} : s.size = (dl s).length := size_list s
def Aft (R : List UInt8) : Prop := ∃ c r, R = c :: r ∧ (c = 32 ∨ c = 59)
theorem aft_bad {S : ByteArray} {R : List UInt8} (h : Aft R) (hS : dl S = R) : badB S = false := by
  obtain ⟨c, r, rfl, hc⟩ := h
  unfold badB
  rw [bt_dl, hS]
  rcases hc with rfl | rfl <;> simp [plB, letB, digB, markB]
theorem endT_good {S : ByteArray} {R : List UInt8} (h : Aft R) (hS : dl S = R) {w : ByteArray} (hw : w.size ≤ 120) (n : Int) (q : Bool) (a : Int) : endT S n w q a = ⟨34, w, q, a, 0, S, n⟩ := by
  rw [endT_eq, decide_eq_false (show ¬ 120 < w.size by omega), cond_false, aft_bad h hS, cond_false]
theorem next_word {s : ByteArray} {n : Int} {sp R : List UInt8} {w : Wd} (hsp : Wh sp) (hs : dl s = sp ++ (wdT w ++ R)) (hw : wordE w.t w.q = 0) (hR : Aft R) : (nextT s n).e = 0 ∧ (nextT s n).k = 34 ∧ (nextT s n).w = w ∧ dl (nextT s n).s = R := by
  obtain ⟨z, hq, hp⟩ := (wordE_iff _ _).1 hw
  obtain ⟨t, q⟩ := w
  simp only at z hq hp
  cases q with
  | false =>
    obtain ⟨z0, hp⟩ := hp rfl
    have hall := spN_all_iff.1 hp
    have hs : dl s = sp ++ (dl t ++ R) := hs
    obtain ⟨c, r, hcr⟩ : ∃ c r, dl t = c :: r := by
      cases h : dl t with
      | nil => exact absurd (size0.2 h) z0
      | cons c r => exact ⟨c, r, rfl⟩
    have hc : plB c.toNat = true := hall c (by rw [hcr]; simp)
    have hc2 : whB c.toNat = false ∧ c ≠ 35 ∧ c.toNat ≠ 59 ∧ c.toNat ≠ 123 ∧ c.toNat ≠ 125 ∧ c.toNat ≠ 34 := by
      have key : ∀ n : Nat, plB n = true → whB n = false ∧ n ≠ 35 ∧ n ≠ 59 ∧ n ≠ 123 ∧ n ≠ 125 ∧ n ≠ 34 := fun n h => by
        unfold plB letB digB markB at h
        unfold whB
        simp at h ⊢
        omega
      obtain ⟨k1, k2, k3⟩ := key _ hc
      exact ⟨k1, fun e => k2 (by rw [e]; rfl), k3⟩
    obtain ⟨S, N, e, hS⟩ := next_at (n := n) hsp hs (by
      intro c' r' h
      rw [hcr, List.cons_append] at h
      injection h with h1 _
      subst h1
      exact ⟨hc2.1, hc2.2.1⟩)
    have h0 : S.size ≠ 0 := by rw [size_list, show S.data.toList = _ from hS, hcr]; simp
    have hb : bt S 0 = c.toNat := by rw [bt_dl, hS, hcr]; rfl
    have hd := drop_all (p := fun b => plB b.toNat) (w := dl t) (R := R) hall (by
      obtain ⟨c', r', e', hc'⟩ := hR
      intro c'' r'' h
      rw [e'] at h
      injection h with h1 _
      subst h1
      rcases hc' with rfl | rfl <;> decide)
    have e1 : dl (rs plB S) = R := by rw [rs_dl, hS]; exact hd.1
    have e2 : tk plB S = t := ba_ext (by rw [tk_dl, hS]; exact hd.2)
    have et : tokT S N = endT (rs plB S) (N + nlc (tk plB S)) (tk plB S) false N := by
      unfold tokT
      rw [hb, decide_eq_false h0, decide_eq_false hc2.2.2.1, decide_eq_false hc2.2.2.2.1, decide_eq_false hc2.2.2.2.2.1, decide_eq_false hc2.2.2.2.2.2, hc]
      rfl
    rw [e, et, endT_good hR e1 (by rw [e2]; exact z), e2]
    exact ⟨rfl, rfl, rfl, e1⟩
  | true =>
    have hall := spN_all_iff.1 (hq rfl)
    have hs : dl s = sp ++ (34 :: (dl t ++ [34]) ++ R) := hs
    obtain ⟨S, N, e, hS⟩ := next_at (n := n) hsp hs (by
      intro c' r' h
      rw [List.cons_append] at h
      injection h with h1 _
      subst h1
      exact ⟨by decide, by decide⟩)
    have h0 : S.size ≠ 0 := by rw [size_list, show S.data.toList = _ from hS]; simp
    have hb : bt S 0 = 34 := by rw [bt_dl, hS]; rfl
    have hT : dl (tl1 S) = dl t ++ 34 :: R := by rw [tl1_dl, hS]; simp
    have hd := drop_all (p := fun b => qB b.toNat) (w := dl t) (R := 34 :: R) hall (by
      intro c'' r'' h
      injection h with h1 _
      subst h1
      decide)
    have e1 : dl (rs qB (tl1 S)) = 34 :: R := by rw [rs_dl, hT]; exact hd.1
    have e2 : tk qB (tl1 S) = t := ba_ext (by rw [tk_dl, hT]; exact hd.2)
    have g0 : (rs qB (tl1 S)).size ≠ 0 := by rw [size_list, show (rs qB (tl1 S)).data.toList = _ from e1]; simp
    have gb : bt (rs qB (tl1 S)) 0 = 34 := by rw [bt_dl, e1]; rfl
    have e3 : dl (tl1 (rs qB (tl1 S))) = R := by rw [tl1_dl, e1]; rfl
    have et : tokT S N = quotT S N N := by
      unfold tokT
      rw [hb, decide_eq_false h0]
      rfl
    have eq : quotT S N N = endT (tl1 (rs qB (tl1 S))) (N + nlc (tk qB (tl1 S))) (tk qB (tl1 S)) true N := by
      unfold quotT
      rw [decide_eq_false g0, decide_eq_true gb, cond_false, Bool.not_true, cond_false]
    rw [e, et, eq, endT_good hR e3 (by rw [e2]; exact z), e2]
    exact ⟨rfl, rfl, rfl, e3⟩
theorem words_fmt {c : UInt8} (hc : c = 59 ∨ c = 123) {R : List UInt8} : ∀ (r : List Wd) (f : Nat) {s : ByteArray} {n : Int} {ws : List Wd}, (∀ w ∈ r, wordE w.t w.q = 0) → ws.length + r.length ≤ 40 → r.length < f →
    (∃ sp, Wh sp ∧ dl s = wsA r false ++ (sp ++ c :: R) ∧ (sp = [] → c = 59) ∧ (sp ≠ [] → ∃ t, sp = 32 :: t)) →
    (wordsT f s n ws).1 = ws ++ r ∧ (wordsT f s n ws).2.e = 0 ∧ (wordsT f s n ws).2.k = c.toNat ∧ dl (wordsT f s n ws).2.s = R
  | [], f, s, n, ws, hg, hl, hf, ⟨sp, hsp, hs, h1, h2⟩ => by
    obtain ⟨f, rfl⟩ : ∃ g, f = g + 1 := ⟨f - 1, by simp only [List.length_nil] at hf; omega⟩
    rw [wordsT_succ f s n ws]
    obtain ⟨g1, g2, g3⟩ := next_mark (n := n) hsp (show dl s = sp ++ c :: R by rw [hs]; rfl) (by rcases hc with h | h; exact .inl h; exact .inr (.inl h))
    have hk : ¬ (nextT s n).k = 34 := by rw [g2]; rcases hc with rfl | rfl <;> decide
    rw [decide_eq_true g1, decide_eq_false hk, Bool.not_true, cond_false, Bool.not_false, cond_true]
    exact ⟨by simp, g1, g2, g3⟩
  | w :: r, f, s, n, ws, hg, hl, hf, ⟨sp, hsp, hs, h1, h2⟩ => by
    obtain ⟨f, rfl⟩ : ∃ g, f = g + 1 := ⟨f - 1, by omega⟩
    rw [wordsT_succ f s n ws]
    have ha : Aft (wsA r false ++ (sp ++ c :: R)) := by
      cases r with
      | nil =>
        cases sp with
        | nil =>
          obtain rfl := h1 rfl
          exact ⟨59, R, rfl, .inr rfl⟩
        | cons b t =>
          obtain ⟨t', ht⟩ := h2 (by simp)
          rw [ht]
          exact ⟨32, t' ++ c :: R, rfl, .inl rfl⟩
      | cons v r' => exact ⟨32, wdT v ++ wsA r' false ++ (sp ++ c :: R), by simp [wsA], .inl rfl⟩
    obtain ⟨g1, g2, g3, g4⟩ := next_word (n := n) (sp := [32]) (R := wsA r false ++ (sp ++ c :: R)) (w := w) (by intro b hb; rw [List.mem_singleton] at hb; subst hb; decide) (by rw [hs]; simp [wsA]) (hg w (by simp)) ha
    simp only [List.length_cons] at hl hf
    have hl40 : ¬ ws.length = 40 := by omega
    obtain ⟨k1, k2, k3, k4⟩ := words_fmt hc r f (s := (nextT s n).s) (n := (nextT s n).n) (ws := ws ++ [w]) (fun v hv => hg v (by simp [hv])) (by simp only [List.length_append, List.length_cons, List.length_nil]; omega) (by omega) ⟨sp, hsp, g4, h1, h2⟩
    rw [decide_eq_true g1, decide_eq_true g2, decide_eq_false hl40, Bool.not_true, cond_false, cond_false, cond_false, g3]
    exact ⟨by rw [k1, List.append_assoc]; rfl, k2, k3, k4⟩
def EndOk (last : Int) (F R : List UInt8) : Prop := (last = 0 ∧ F = [] ∧ R = []) ∨ (last = 125 ∧ ∃ sp, Wh sp ∧ F = sp ++ 125 :: R)
def tailT (x : Itm) (ind : List UInt8) : List UInt8 := bif x.bl then [32, 123, 10] ++ (fmtL x.ks (ind ++ [32, 32]) ++ (ind ++ [125, 10])) else [59, 10]
theorem stmT_run {rec : ByteArray → Int → Int → LR} {deep : Bool} {w : Wd} {a : Int} {s : ByteArray} {n m : Int} (h1 : headB w.t w.q = true) (h2 : m ≠ 600) (h3 : (wordsR s n w).2.e = 0) :
    ((wordsR s n w).2.k = 59 → stmtT rec deep w a s n m = ⟨.mk a (wordsR s n w).1 false [], 0, 0, (wordsR s n w).2.s, (wordsR s n w).2.n, m + 1⟩) ∧
    ((wordsR s n w).2.k = 123 → deep = false → (rec (wordsR s n w).2.s (wordsR s n w).2.n (m + 1)).e = 0 → stmtT rec deep w a s n m = ⟨.mk a (wordsR s n w).1 true (rec (wordsR s n w).2.s (wordsR s n w).2.n (m + 1)).l, 0, 0, (rec (wordsR s n w).2.s (wordsR s n w).2.n (m + 1)).s, (rec (wordsR s n w).2.s (wordsR s n w).2.n (m + 1)).n, (rec (wordsR s n w).2.s (wordsR s n w).2.n (m + 1)).m⟩) := by
  unfold stmtT
  generalize wordsR s n w = r at *
  generalize rec r.2.s r.2.n (m + 1) = q at *
  rw [h1, decide_eq_false h2, decide_eq_true h3]
  simp only [Bool.not_true, cond_false]
  refine ⟨fun h => by rw [decide_eq_true h, cond_true], fun h hd hq => ?_⟩
  rw [decide_eq_false (show ¬ r.2.k = 59 by rw [h]; decide), decide_eq_true h, hd, decide_eq_true hq]
  simp only [Bool.not_true, cond_false]
mutual
theorem stm_fmt : ∀ (x : Itm) (k : Nat) (ind R : List UInt8) (s : ByteArray) (n a m : Int) (w : Wd) (r : List Wd), k ≤ 4 → Wh ind → gI x k → 0 ≤ m → m + nI x ≤ 600 → x.ws = w :: r → dl s = wsA r false ++ (tailT x ind ++ R) →
    (stmK k w a s n m).e = 0 ∧ sameI (stmK k w a s n m).x x = true ∧ dl (stmK k w a s n m).s = 10 :: R ∧ (stmK k w a s n m).m = m + nI x
  | .mk l ws b ks, k, ind, R, s, n, a, m, w, r, hk, hind, hg, hm0, hm, hw, hs => by
    have hw : ws = w :: r := hw
    subst hw
    rw [gI] at hg
    obtain ⟨⟨g1, g2, w', r', e', g3⟩, g4⟩ := hg
    injection e' with e1 e2
    subst e1; subst e2
    rw [nI] at hm ⊢
    simp only [List.length_cons] at g1
    unfold stmK
    rcases g4 with ⟨rfl, rfl⟩ | ⟨rfl, j, rfl, gk⟩
    · have hs : dl s = wsA r false ++ ([] ++ 59 :: (10 :: R)) := hs
      obtain ⟨k1, k2, k3, k4⟩ := words_fmt (c := 59) (.inl rfl) r 40 (n := n) (ws := [w]) (fun v hv => g2 v (by simp [hv])) (by simp only [List.length_cons, List.length_nil]; omega) (by omega) ⟨[], by intro b hb; simp at hb, hs, fun _ => rfl, fun h => absurd rfl h⟩
      have hR : wordsR s n w = wordsT 40 s n [w] := by unfold wordsR; rfl
      rw [← hR] at k1 k2 k3 k4
      rw [(stmT_run (a := a) g3 (by omega) k2).1 k3]
      refine ⟨rfl, ?_, k4, ?_⟩
      · rw [k1, sameI, List.singleton_append, words_self, sameL]; rfl
      · rw [nL]; show m + 1 = _; omega
    · have hs : dl s = wsA r false ++ ([32] ++ 123 :: (10 :: (fmtL ks (ind ++ [32, 32]) ++ (ind ++ [125, 10]) ++ R))) := by
        rw [hs]; simp [tailT, Itm.bl, Itm.ks]
      obtain ⟨k1, k2, k3, k4⟩ := words_fmt (c := 123) (.inr rfl) r 40 (n := n) (ws := [w]) (fun v hv => g2 v (by simp [hv])) (by simp only [List.length_cons, List.length_nil]; omega) (by omega) ⟨[32], by intro b hb; rw [List.mem_singleton] at hb; subst hb; decide, hs, ⟨(fun h => nomatch h), fun _ => ⟨[], rfl⟩⟩⟩
      have hR : wordsR s n w = wordsT 40 s n [w] := by unfold wordsR; rfl
      rw [← hR] at k1 k2 k3 k4
      obtain ⟨d, l1, l2, l3, l4, l5⟩ := list_fmt ks j 125 (ind ++ [32, 32]) (ind ++ 125 :: (10 :: R)) (10 :: R) [10] 600 (wordsR s n w).2.s (wordsR s n w).2.n (m + 1) [] (by omega) (by intro b hb; rw [List.mem_singleton] at hb; subst hb; decide)
        (hind.app (by intro b hb; simp at hb; subst hb; decide)) gk (by have := nL_len ks; omega) (by omega) (by omega) (by rw [k4]; simp) (.inr ⟨rfl, ind, hind, rfl⟩)
      have hL : listK (j + 1) (wordsR s n w).2.s (wordsR s n w).2.n (m + 1) = itemsU (stmK j) 125 600 (nextT (wordsR s n w).2.s (wordsR s n w).2.n) (m + 1) [] := by
        rw [listK_succ, fuel0_eq, itemsT_U, show lastK j = 125 by unfold lastK; rw [decide_eq_false (by omega)]; rfl]
      rw [← hL] at l1 l2 l4 l5
      rw [(stmT_run (a := a) g3 (by omega) k2).2 k3 (by simp) l1]
      refine ⟨rfl, ?_, l4, ?_⟩
      · rw [k1, sameI, List.singleton_append, words_self, l2, List.nil_append, l3]; rfl
      · show (listK (j + 1) _ _ _).m = _
        rw [l5]; omega
theorem list_fmt : ∀ (l : List Itm) (k : Nat) (last : Int) (ind F R sp : List UInt8) (f : Nat) (s : ByteArray) (n m : Int) (l0 : List Itm), k ≤ 4 → Wh sp → Wh ind → gL l k → l.length ≤ f → 0 ≤ m → m + nL l ≤ 600 → dl s = sp ++ (fmtL l ind ++ F) → EndOk last F R →
    ∃ d, (itemsU (stmK k) last f (nextT s n) m l0).e = 0 ∧ (itemsU (stmK k) last f (nextT s n) m l0).l = l0 ++ d ∧ sameL d l = true ∧ dl (itemsU (stmK k) last f (nextT s n) m l0).s = R ∧ (itemsU (stmK k) last f (nextT s n) m l0).m = m + nL l
  | [], k, last, ind, F, R, sp, f, s, n, m, l0, hk, hsp, hind, hg, hf, hm0, hm, hs, hF => by
    rcases hF with ⟨rfl, rfl, rfl⟩ | ⟨rfl, sp2, hsp2, rfl⟩
    · have hs : dl s = sp := by rw [hs]; simp [fmtL]
      obtain ⟨g1, g2, g3⟩ := next_none (n := n) (by rw [hs]; exact hsp : Wh (dl s))
      rw [itemsU_last g1 g2]
      exact ⟨[], rfl, by simp, by simp [sameL], g3, by simp [nL]⟩
    · have hs : dl s = (sp ++ sp2) ++ 125 :: R := by rw [hs]; simp [fmtL]
      obtain ⟨g1, g2, g3⟩ := next_mark (n := n) (hsp.app hsp2) hs (.inr (.inr rfl))
      rw [itemsU_last g1 (by rw [g2]; rfl)]
      exact ⟨[], rfl, by simp, by simp [sameL], g3, by simp [nL]⟩
  | x :: r, k, last, ind, F, R, sp, f, s, n, m, l0, hk, hsp, hind, hg, hf, hm0, hm, hs, hF => by
    rw [gL] at hg
    rw [nL] at hm ⊢
    obtain ⟨f, rfl⟩ : ∃ g, f = g + 1 := ⟨f - 1, by simp only [List.length_cons] at hf; omega⟩
    have hgx := hg.1
    obtain ⟨w, ws', hws, hgw, hgh⟩ : ∃ w r, x.ws = w :: r ∧ (wordE w.t w.q = 0) ∧ headB w.t w.q = true := by
      cases x with
      | mk l ws b ks =>
        rw [gI] at hgx
        obtain ⟨⟨_, g2, w, r, rfl, g3⟩, _⟩ := hgx
        exact ⟨w, r, rfl, g2 w (by simp), g3⟩
    have hx : fmtI x ind = ind ++ (wdT w ++ (wsA ws' false ++ tailT x ind)) := by
      rw [fmtI_eq, hws]; simp [wsA, tailT]
    have hs : dl s = (sp ++ ind) ++ (wdT w ++ (wsA ws' false ++ (tailT x ind ++ (fmtL r ind ++ F)))) := by
      rw [hs, fmtL, hx]; simp
    have ha : Aft (wsA ws' false ++ (tailT x ind ++ (fmtL r ind ++ F))) := by
      cases ws' with
      | nil =>
        unfold tailT
        cases x.bl
        · exact ⟨59, _, rfl, .inr rfl⟩
        · exact ⟨32, _, rfl, .inl rfl⟩
      | cons v t => exact ⟨32, _, by simp [wsA]; rfl, .inl rfl⟩
    obtain ⟨t1, t2, t3, t4⟩ := next_word (n := n) (hsp.app hind) hs hgw ha
    obtain ⟨q1, q2, q3, q4⟩ := stm_fmt x k ind (fmtL r ind ++ F) (nextT s n).s (nextT s n).n (nextT s n).a m w ws' hk hind hgx hm0 (by omega) hws t4
    have hlast : (nextT s n).k ≠ last := by
      rw [t2]
      rcases hF with ⟨rfl, _⟩ | ⟨rfl, _⟩ <;> decide
    rw [itemsU_step t1 hlast t2 (by rw [t3]; exact q1), t3]
    obtain ⟨d, p1, p2, p3, p4, p5⟩ := list_fmt r k last ind F R [10] f (stmK k w (nextT s n).a (nextT s n).s (nextT s n).n m).s (stmK k w (nextT s n).a (nextT s n).s (nextT s n).n m).n (stmK k w (nextT s n).a (nextT s n).s (nextT s n).n m).m (l0 ++ [(stmK k w (nextT s n).a (nextT s n).s (nextT s n).n m).x])
      hk (by intro b hb; rw [List.mem_singleton] at hb; subst hb; decide) hind hg.2 (by simp only [List.length_cons] at hf; omega) (by rw [q4]; omega) (by rw [q4]; omega) (by rw [q3]; rfl) hF
    refine ⟨(stmK k w (nextT s n).a (nextT s n).s (nextT s n).n m).x :: d, p1, ?_, sameL_cons q2 p3, p4, by rw [p5, q4]; omega⟩
    rw [p2, List.append_assoc]; rfl
end
theorem parse_fmt {l : List Itm} (hg : gL l 4) (hn : nL l ≤ 600) (hz : (fmtL l []).length ≤ 12000) : (parseT (bs (fmtL l []))).e = 0 ∧ sameL (parseT (bs (fmtL l []))).l l = true := by
  have hsz : (bs (fmtL l [])).size = (fmtL l []).length := bs_size _
  have e : parseT (bs (fmtL l [])) = itemsU (stmK 4) 0 600 (nextT (bs (fmtL l [])) 1) 0 [] := by
    rw [parseT_eq, decide_eq_false (show ¬ 12000 < (bs (fmtL l [])).size by omega), cond_false, listK_succ, fuel0_eq, itemsT_U, lastK4]
  have := nL_len l
  obtain ⟨d, h1, h2, h3, _, _⟩ := list_fmt l 4 0 [] [] [] [] 600 (bs (fmtL l [])) 1 0 [] (by omega) (by intro b hb; simp at hb) (by intro b hb; simp at hb) hg (by omega) (by omega) (by omega) (by simp [dl, bs]) (.inl ⟨rfl, rfl, rfl⟩)
  rw [← e] at h1 h2
  exact ⟨h1, by rw [h2]; exact h3⟩
end Go.Proofs.Ytahiigfpikohgaa
end
section
namespace Go.Proofs.Ytahiigfpikohgaa
open Go.VD
set_option linter.unusedVariables false
set_option linter.unusedSimpArgs false
set_option maxRecDepth 100000
theorem lawCanon_pure (s : ByteArray) (hpre : s.size ≤ maxLen) : PureJ Try.prog 4 [.v (.string s)] (.v (.bool true)) := by
  refine pureJ_of_vcx (call := (addPure 6 ent_synKnown (addPure 16 ent_parse (addPure 14 ent_same (addPure 8 ent_hCheck (addPure 10 ent_hFormat noCalls)))))) (lp := fun _ => none) (N := 10) T_ok mixed (addPure_ok ent_synKnown_ok (addPure_ok ent_parse_ok (addPure_ok ent_same_ok (addPure_ok ent_hCheck_ok (addPure_ok ent_hFormat_ok noCalls_ok))))) Try.func4 rfl (by decide) (by kernel_rfl) (by kernel_rfl) (LpAll.none _) (by first | trivial | (simp only [NamelessL, Nameless, and_self, and_true, true_and]; done) | (simp [NamelessL, Nameless, u32s_nameless, namelessL_ints]; done)) (by first | trivial | (simp only [NamelessL, Nameless, and_self, and_true, true_and]; done) | (simp [NamelessL, Nameless, u32s_nameless, namelessL_ints]; done)) ?_
  refine of_eq (B := letI z0 := (([] : List Value) = ([] : List Value)); letI z3 := (itemsD (LR.l (parseT s))); letI z1 := (ByteArray.mk (Array.mk (fmtB (unI z3)))); letI z5 := (D.v (Value.bool Bool.true)); letI z2 := (True ∧ (True ∧ (True ∧ (True ∧ ((D.v (Value.bool Bool.false)) = z5))))); letI z4 := (itemsD (LR.l (parseT z1))); letI z6 := (List.length (LR.l (parseT s))); letI z7 := (IOk (List.length (LR.l (parseT z1))) z4); letI z8 := (True ∧ (True ∧ z2)); letI z9 := (140737488355328 : Nat); (True ∧ (True ∧ (True ∧ (True ∧ (True ∧ (True ∧ (True ∧ (True ∧ (True ∧ (True ∧ (True ∧ (True ∧ (True ∧ (True ∧ (pcond ((LR.e (parseT s)) != (0 : Int)) (True ∧ (True ∧ (True ∧ (True ∧ (True ∧ (True ∧ ((D.v (Value.bool (((z6 : Nat) : Int) == (0 : Int)))) = z5))))))) (True ∧ (((IOk z6 z3) ∧ (((chkE (unI z3)) = (0 : Int)) → ((List.length (fmtL (unI z3) ([] : List UInt8))) ≤ z9))) ∧ (True ∧ (True ∧ (True ∧ (True ∧ (True ∧ (True ∧ (True ∧ (True ∧ (True ∧ (True ∧ (True ∧ ((IOk z6 z3) ∧ (True ∧ (True ∧ (pcond ((chkE (unI z3)) == (0 : Int)) (True ∧ (True ∧ (True ∧ (True ∧ (pcond (Decidable.decide ((12000 : Int) < (((ByteArray.size z1) : Nat) : Int))) (z0 ∧ (z0 ∧ (z0 ∧ (z0 ∧ (z0 ∧ (z0 ∧ (z0 ∧ (True ∧ (True ∧ (True ∧ (True ∧ (True ∧ (z5 = z5))))))))))))) (True ∧ (True ∧ (True ∧ (pcond ((LR.e (parseT z1)) == (0 : Int)) (True ∧ (True ∧ ((z7 ∧ (IOk z6 z3)) ∧ (True ∧ (True ∧ (pcond (sameL (unI z4) (unI z3)) (True ∧ ((z7 ∧ (((chkE (unI z4)) = (0 : Int)) → ((List.length (fmtL (unI z4) ([] : List UInt8))) ≤ z9))) ∧ (True ∧ (True ∧ (True ∧ (True ∧ (True ∧ (True ∧ (True ∧ (True ∧ ((D.v (Value.bool ((ByteArray.toList (ByteArray.mk (Array.mk (fmtB (unI z4))))) == (ByteArray.toList z1)))) = z5))))))))))) z8)))))) (True ∧ (True ∧ z8))))))))))) (z0 ∧ (z0 ∧ (z0 ∧ (z0 ∧ (z0 ∧ (z0 ∧ (z0 ∧ (z0 ∧ (z0 ∧ (z0 ∧ (z0 ∧ (z0 ∧ (z0 ∧ z2)))))))))))))))))))))))))))))))))))))))))))))) (by kernel_rfl) ?_
  simp only [true_and, and_true, and_self, IsInt_lit, IsBool_lit, IsStr_lit, IsSl_lit, cellN_lit, cellL_lit, Bool.not_eq_true', Bool.not_eq_false', Bool.not_true, Bool.not_false, Int.reduceLE, Int.reduceLT, Int.reduceNeg, Nat.le_refl, Int.le_refl, Nat.reduceLT, Nat.reduceLeDiff, Nat.reduceEqDiff, D.v.injEq, D.tup.injEq, D.agg.injEq, D.ro.injEq, List.cons.injEq, Value.int.injEq, Value.bool.injEq, pcond_true, pcond_false, NamelessL, Nameless, Nat.reduceMul, Nat.reduceAdd, Nat.zero_add, Int.toNat_natCast, IOk_lit, unI_itemsD]
  by_cases e1 : (parseT s).e = 0
  · obtain ⟨o1, l1, m1, n1⟩ := parseT_okL e1
    have g1 := parseT_good e1
    have c1 := chkE_good g1 n1
    obtain ⟨z1, z2⟩ := fmt_size c1
    have fb : fmtB (parseT s).l = fmtL (parseT s).l [] := by unfold fmtB; rw [decide_eq_true c1, cond_true]
    rw [e1, show ((0 : Int) != 0) = false from rfl, pcond_false, fb, c1, beq_self_eq_true, pcond_true]
    rw [show ({ data := { toList := fmtL (parseT s).l [] } } : ByteArray) = bs (fmtL (parseT s).l []) from rfl]
    have la : (parseT s).l.length ≤ maxLen := by unfold maxLen; omega
    refine ⟨⟨⟨la, o1⟩, fun _ => by omega⟩, ⟨la, o1⟩, pcond_intro (fun _ => trivial) (fun h2 => ?_)⟩
    rw [decide_eq_false_iff_not, bs_size] at h2
    obtain ⟨e2, sm⟩ := parse_fmt g1 n1 (by omega)
    obtain ⟨o2, l2, m2, n2⟩ := parseT_okL e2
    have g2 := parseT_good e2
    have c2 := chkE_good g2 n2
    have z3 := (fmt_size c2).2
    have fb2 : fmtB (parseT (bs (fmtL (parseT s).l []))).l = fmtL (parseT s).l [] := by
      unfold fmtB; rw [decide_eq_true c2, cond_true, fmtL_same _ _ [] sm]
    rw [fb2, e2, beq_self_eq_true, pcond_true, sm, pcond_true]
    have lb : (parseT (bs (fmtL (parseT s).l []))).l.length ≤ maxLen := by unfold maxLen; omega
    exact ⟨⟨⟨lb, o2⟩, la, o1⟩, ⟨⟨lb, o2⟩, fun _ => by omega⟩, beq_self_eq_true _⟩
  · rw [bneI, decide_eq_false e1, Bool.not_false, pcond_true, parseT_err e1]
    rfl
end Go.Proofs.Ytahiigfpikohgaa
end
