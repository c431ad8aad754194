import Derived.Test.YtahiigfpikohgaaZUj21
import Derived.Test.YtahiigfpikohgaaZUj17
section
namespace Go.Proofs.Ytahiigfpikohgaa
open Go.VD
set_option linter.unusedVariables false
set_option linter.unusedSimpArgs false
set_option maxRecDepth 100000
theorem bnot_t {b : Prop} [Decidable b] (h : (!decide b) = true) : ¬ b := by simpa using h
theorem bnot_f {b : Prop} [Decidable b] (h : (!decide b) = false) : b := by simpa using h
theorem wordsT_zero (s : ByteArray) (n : Int) (ws : List Wd) : (wordsT 0 s n ws).2.e = 1 := by simp only [wordsT]
theorem wordsT_succ (f : Nat) (s : ByteArray) (n : Int) (ws : List Wd) : wordsT (f + 1) s n ws = bif !decide ((nextT s n).e = 0) then ([], nextT s n)
    else bif !decide ((nextT s n).k = 34) then (ws, nextT s n)
    else bif decide (ws.length = 40) then ([], { nextT s n with e := 3 })
    else wordsT f (nextT s n).s (nextT s n).n (ws ++ [(nextT s n).w]) := by simp only [wordsT]
theorem wordsT_sim {u : ByteArray} (hu : U u) : ∀ (f : Nat) {s : ByteArray} {n n' : Int} {ws : List Wd}, (wordsT f s n ws).2.e = 0 → ((wordsT f s n ws).2.k ≠ 0 ∨ dl u = []) →
    (wordsT f (s ++ u) n' ws).1 = (wordsT f s n ws).1 ∧ TokSim u (wordsT f s n ws).2 (wordsT f (s ++ u) n' ws).2 := by
  intro f
  induction f with
  | zero =>
    intro s n n' ws h
    rw [wordsT_zero] at h
    exact absurd h (by decide)
  | succ f ih =>
    intro s n n' ws h hk
    have sim := @nextT_sim u hu s n n'
    rw [wordsT_succ f s n ws] at h hk ⊢
    rw [wordsT_succ f (s ++ u) n' ws]
    generalize nextT s n = t at *
    generalize nextT (s ++ u) n' = t' at *
    cases h1 : !decide (t.e = 0)
    · simp only [h1, cond_false] at h hk ⊢
      have he := bnot_f h1
      cases h2 : !decide (t.k = 34)
      · simp only [h2, cond_false] at h hk ⊢
        have hk34 := bnot_f h2
        have sim := sim he (.inl (by rw [hk34]; decide))
        rw [sim.e, sim.k, h1, h2]
        cases h3 : decide (ws.length = 40)
        · simp only [h3, cond_false] at h hk ⊢
          rw [sim.s, show t'.w = t.w by unfold Tok.w; rw [sim.t, sim.q]]
          exact ih h hk
        · simp only [h3, cond_true] at h
          exact absurd h (by decide)
      · simp only [h2, cond_true] at h hk ⊢
        have sim := sim he hk
        rw [sim.e, sim.k, h1, h2]
        exact ⟨rfl, sim⟩
    · simp only [h1, cond_true] at h
      exact absurd h (bnot_t h1)
theorem wordsR_sim {u : ByteArray} (hu : U u) {s : ByteArray} {n n' : Int} {w : Wd} (h : (wordsR s n w).2.e = 0) (hk : (wordsR s n w).2.k ≠ 0 ∨ dl u = []) :
    (wordsR (s ++ u) n' w).1 = (wordsR s n w).1 ∧ TokSim u (wordsR s n w).2 (wordsR (s ++ u) n' w).2 := by
  unfold wordsR at *; exact wordsT_sim hu 40 h hk
structure LSim (u : ByteArray) (c : Int) (x y : LR) : Prop where
  e : y.e = 0
  s : y.s = x.s ++ u
  m : y.m = x.m + c
  l : sameL y.l x.l = true
structure SSim (u : ByteArray) (c : Int) (x y : SR) : Prop where
  e : y.e = 0
  s : y.s = x.s ++ u
  m : y.m = x.m + c
  x : sameI y.x x.x = true
def RecSim (u : ByteArray) (rec : ByteArray → Int → Int → LR) : Prop := ∀ s n n' m c, RdOk s n → 0 ≤ m → m ≤ 600 → 0 ≤ c → (rec s n m).e = 0 → (rec s n m).m + c ≤ 600 → LSim u c (rec s n m) (rec (s ++ u) n' (m + c))
def StmSim (u : ByteArray) (stm : Wd → Int → ByteArray → Int → Int → SR) : Prop := ∀ w a a' s n n' m c, RdOk s n → 0 ≤ m → m ≤ 600 → 0 ≤ c → (stm w a s n m).e = 0 → (stm w a s n m).m + c ≤ 600 → SSim u c (stm w a s n m) (stm w a' (s ++ u) n' (m + c))
theorem words_self (ws : List Wd) : eqBy wdEq ws ws = true := eqBy_self (fun w => by simp [wdEq, bytes_self]) ws
theorem stmtT_sim {u : ByteArray} (hu : U u) {rec : ByteArray → Int → Int → LR} (hrec : RecSim u rec) (hfine : ∀ s n m, RdOk s n → 0 ≤ m → m ≤ 600 → Fine m (rec s n m).s (rec s n m).n (rec s n m).m) (deep : Bool) : StmSim u (stmtT rec deep) := by
  intro w a a' s n n' m c hr h0 h6 hc h hm
  have hlt := (stmtT_fine hfine deep w a hr h0 h6).2 h
  have hr2 := wordsR_ok w hr
  have hw := @wordsR_sim u hu s n n' w
  unfold stmtT at h hm hlt ⊢
  generalize wordsR s n w = r at *
  generalize wordsR (s ++ u) n' w = r' at *
  cases h1 : !headB w.t w.q
  · simp only [h1, cond_false] at h hm hlt ⊢
    cases h2 : decide (m = 600)
    · simp only [h2, cond_false] at h hm hlt ⊢
      have h2' : m ≠ 600 := by simpa using h2
      cases h3 : !decide (r.2.e = 0)
      · simp only [h3, cond_false] at h hm hlt ⊢
        have he := bnot_f h3
        have hw := hw he
        cases h4 : decide (r.2.k = 59)
        · simp only [h4, cond_false] at h hm hlt ⊢
          cases h5 : !decide (r.2.k = 123)
          · simp only [h5, cond_false] at h hm hlt ⊢
            have hk := bnot_f h5
            obtain ⟨w1, w2⟩ := hw (.inl (by rw [hk]; decide))
            cases deep
            · simp only [cond_false] at h hm hlt ⊢
              have hq := hrec r.2.s r.2.n r'.2.n (m + 1) c hr2 (by omega) (by omega) hc
              rw [w2.e, w2.k, w2.s, h3, h4, h5, w1, show m + c + 1 = m + 1 + c by omega]
              generalize rec r.2.s r.2.n (m + 1) = q at *
              generalize rec (r.2.s ++ u) r'.2.n (m + 1 + c) = q' at *
              cases h7 : !decide (q.e = 0)
              · simp only [h7, cond_false] at h hm hlt ⊢
                have hq := hq (bnot_f h7) hm
                have hmc : m + c ≠ 600 := by omega
                rw [decide_eq_false hmc, hq.e]
                simp only [cond_false, decide_true, Bool.not_true]
                refine ⟨rfl, hq.s, hq.m, ?_⟩
                simp only [sameI]
                rw [hq.l, words_self]; rfl
              · simp only [h7, cond_true] at h
                exact absurd h (bnot_t h7)
            · exact absurd (show (17 : Int) = 0 from h) (by decide)
          · simp only [h5, cond_true] at h
            exact absurd (show (6 : Int) = 0 from h) (by decide)
        · simp only [h4, cond_true] at h hm hlt ⊢
          have hk : r.2.k = 59 := by simpa using h4
          obtain ⟨w1, w2⟩ := hw (.inl (by rw [hk]; decide))
          have hmc : m + c ≠ 600 := by omega
          rw [w2.e, w2.k, w2.s, h3, h4, w1, decide_eq_false hmc]
          simp only [cond_false, cond_true]
          refine ⟨rfl, rfl, by show m + c + 1 = m + 1 + c; omega, ?_⟩
          simp only [sameI]
          rw [words_self, sameL]; rfl
      · simp only [h3, cond_true] at h
        exact absurd h (bnot_t h3)
    · simp only [h2, cond_true] at h
      exact absurd (show (3 : Int) = 0 from h) (by decide)
  · simp only [h1, cond_true] at h
    exact absurd (show (6 : Int) = 0 from h) (by decide)
def itemsU (stm : Wd → Int → ByteArray → Int → Int → SR) (last : Int) (f : Nat) (t : Tok) (m : Int) (l : List Itm) : LR :=
  bif !decide (t.e = 0) then ⟨[], t.a, t.e, t.s, t.n, m⟩
  else bif decide (t.k = last) then ⟨l, 0, 0, t.s, t.n, m⟩
  else bif !decide (t.k = 34) then ⟨[], t.a, 6, t.s, t.n, m⟩
  else bif !decide ((stm t.w t.a t.s t.n m).e = 0) then ⟨[], (stm t.w t.a t.s t.n m).a, (stm t.w t.a t.s t.n m).e, (stm t.w t.a t.s t.n m).s, (stm t.w t.a t.s t.n m).n, (stm t.w t.a t.s t.n m).m⟩
  else itemsT stm last f (stm t.w t.a t.s t.n m).s (stm t.w t.a t.s t.n m).n (stm t.w t.a t.s t.n m).m (l ++ [(stm t.w t.a t.s t.n m).x])
theorem itemsT_U (stm : Wd → Int → ByteArray → Int → Int → SR) (last : Int) (f : Nat) (s : ByteArray) (n m : Int) (l : List Itm) : itemsT stm last (f + 1) s n m l = itemsU stm last f (nextT s n) m l := rfl
theorem itemsU_ok {stm : Wd → Int → ByteArray → Int → Int → SR} {last : Int} {f : Nat} {t : Tok} {m : Int} {l : List Itm} (h : (itemsU stm last f t m l).e = 0) :
    t.e = 0 ∧ ((t.k = last ∧ itemsU stm last f t m l = ⟨l, 0, 0, t.s, t.n, m⟩) ∨ (t.k ≠ last ∧ t.k = 34 ∧ (stm t.w t.a t.s t.n m).e = 0 ∧ ∃ f', f = f' + 1 ∧
      itemsU stm last f t m l = itemsU stm last f' (nextT (stm t.w t.a t.s t.n m).s (stm t.w t.a t.s t.n m).n) (stm t.w t.a t.s t.n m).m (l ++ [(stm t.w t.a t.s t.n m).x]))) := by
  have hU : itemsU stm last f t m l = _ := rfl
  rw [hU] at h
  unfold itemsU at h hU ⊢
  cases h1 : !decide (t.e = 0)
  · simp only [h1, cond_false] at h ⊢
    refine ⟨bnot_f h1, ?_⟩
    cases h2 : decide (t.k = last)
    · simp only [h2, cond_false] at h ⊢
      cases h3 : !decide (t.k = 34)
      · simp only [h3, cond_false] at h ⊢
        cases h4 : !decide ((stm t.w t.a t.s t.n m).e = 0)
        · simp only [h4, cond_false] at h ⊢
          refine .inr ⟨by simpa using h2, bnot_f h3, bnot_f h4, ?_⟩
          cases f with
          | zero => exact absurd (show (1 : Int) = 0 from h) (by decide)
          | succ f' => refine ⟨f', rfl, ?_⟩; rw [itemsT_U]; rfl
        · simp only [h4, cond_true] at h
          exact absurd h (bnot_t h4)
      · simp only [h3, cond_true] at h
        exact absurd (show (6 : Int) = 0 from h) (by decide)
    · simp only [cond_true]
      exact .inl ⟨by simpa using h2, trivial⟩
  · simp only [h1, cond_true] at h
    exact absurd h (bnot_t h1)
theorem itemsU_err {stm : Wd → Int → ByteArray → Int → Int → SR} {last : Int} : ∀ {f : Nat} {t : Tok} {m : Int} {l : List Itm}, (itemsU stm last f t m l).e ≠ 0 → (itemsU stm last f t m l).l = []
  | f, t, m, l, h => by
    unfold itemsU at h ⊢
    cases h1 : !decide (t.e = 0)
    · simp only [h1, cond_false] at h ⊢
      cases h2 : decide (t.k = last)
      · simp only [h2, cond_false] at h ⊢
        cases h3 : !decide (t.k = 34)
        · simp only [h3, cond_false] at h ⊢
          cases h4 : !decide ((stm t.w t.a t.s t.n m).e = 0)
          · simp only [h4, cond_false] at h ⊢
            cases f with
            | zero => rfl
            | succ f' => rw [itemsT_U] at h ⊢; exact itemsU_err h
          · rfl
        · rfl
      · simp only [h2, cond_true] at h
        exact absurd rfl h
    · rfl
  termination_by f => f
theorem itemsU_last {stm : Wd → Int → ByteArray → Int → Int → SR} {last : Int} {f : Nat} {t : Tok} {m : Int} {l : List Itm} (he : t.e = 0) (hk : t.k = last) : itemsU stm last f t m l = ⟨l, 0, 0, t.s, t.n, m⟩ := by
  unfold itemsU; rw [decide_eq_true he, decide_eq_true hk]; rfl
theorem itemsU_step {stm : Wd → Int → ByteArray → Int → Int → SR} {last : Int} {f : Nat} {t : Tok} {m : Int} {l : List Itm} (he : t.e = 0) (hl : t.k ≠ last) (hk : t.k = 34) (hs : (stm t.w t.a t.s t.n m).e = 0) :
    itemsU stm last (f + 1) t m l = itemsU stm last f (nextT (stm t.w t.a t.s t.n m).s (stm t.w t.a t.s t.n m).n) (stm t.w t.a t.s t.n m).m (l ++ [(stm t.w t.a t.s t.n m).x]) := by
  conv => lhs; unfold itemsU
  rw [decide_eq_true he, decide_eq_false hl, decide_eq_true hk, decide_eq_true hs]; rfl
theorem sameL_cons {x y : Itm} {r s : List Itm} (h1 : sameI x y = true) (h2 : sameL r s = true) : sameL (x :: r) (y :: s) = true := by rw [sameL, h1, h2]; rfl
theorem itemsU_grow {stm : Wd → Int → ByteArray → Int → Int → SR} {last : Int} : ∀ (f : Nat) {t : Tok} {m : Int} {l : List Itm}, (itemsU stm last f t m l).e = 0 → ∃ d, (itemsU stm last f t m l).l = l ++ d
  | f, t, m, l, h => by
    obtain ⟨he, ⟨hk, e⟩ | ⟨hl, hk, hs, f', rfl, e⟩⟩ := itemsU_ok h
    · rw [e]; exact ⟨[], by simp⟩
    · rw [e] at h
      obtain ⟨d, hd⟩ := itemsU_grow f' h
      rw [e, hd]; exact ⟨_, List.append_assoc _ _ _⟩
  termination_by f => f
theorem items_sim {u : ByteArray} (hu : U u) {stm : Wd → Int → ByteArray → Int → Int → SR} (hstm : StmSim u stm) (hfine : ∀ w a s n m, RdOk s n → 0 ≤ m → m ≤ 600 → Fine m (stm w a s n m).s (stm w a s n m).n (stm w a s n m).m) {last c : Int} (hc : 0 ≤ c) (hlu : last ≠ 0 ∨ dl u = []) :
    ∀ (f : Nat) {t t' : Tok} {m : Int} {l l' : List Itm} (f' : Nat), RdOk t.s t.n → 0 ≤ m → m ≤ 600 → TokSim u t t' → (itemsU stm last f t m l).e = 0 → (itemsU stm last f t m l).l.length ≤ l.length + f' → (itemsU stm last f t m l).m + c ≤ 600 →
      ∃ d d', (itemsU stm last f t m l).l = l ++ d ∧ (itemsU stm last f' t' (m + c) l').l = l' ++ d' ∧ sameL d' d = true ∧ (itemsU stm last f' t' (m + c) l').e = 0 ∧ (itemsU stm last f' t' (m + c) l').s = (itemsU stm last f t m l).s ++ u ∧ (itemsU stm last f' t' (m + c) l').m = (itemsU stm last f t m l).m + c
  | f, t, t', m, l, l', f', hr, h0, h6, sim, h, hf', hm => by
    obtain ⟨he, ⟨hk, e⟩ | ⟨hl, hk, hs, f1, rfl, e⟩⟩ := itemsU_ok h
    · rw [e, itemsU_last (by rw [sim.e, he]) (by rw [sim.k, hk])]
      exact ⟨[], [], by simp, by simp, by simp [sameL], rfl, sim.s, rfl⟩
    · rw [e] at h hf' hm
      rw [e]
      obtain ⟨d0, hd0⟩ := itemsU_grow f1 h
      have hfn := hfine t.w t.a t.s t.n m hr h0 h6
      obtain ⟨f2, rfl⟩ : ∃ f2, f' = f2 + 1 := by
        refine ⟨f' - 1, ?_⟩
        rw [hd0] at hf'
        simp only [List.length_append, List.length_cons, List.length_nil] at hf'
        omega
      have hmm : (stm t.w t.a t.s t.n m).m + c ≤ 600 := by
        have := hm
        exact Int.le_trans (by
          have h3 : (stm t.w t.a t.s t.n m).m ≤ (itemsU stm last f1 (nextT (stm t.w t.a t.s t.n m).s (stm t.w t.a t.s t.n m).n) (stm t.w t.a t.s t.n m).m (l ++ [(stm t.w t.a t.s t.n m).x])).m := by
            rw [← itemsT_U]
            exact (itemsT_fine hfine last (f1 + 1) _ hfn.1 (by have := hfn.2.1; omega) hfn.2.2).2.1
          omega) this
      have ss := hstm t.w t.a t'.a t.s t.n t'.n m c hr h0 h6 hc hs hmm
      have hw' : t'.w = t.w := by unfold Tok.w; rw [sim.t, sim.q]
      rw [itemsU_step (f := f2) (by rw [sim.e, he]) (by rw [sim.k]; exact hl) (by rw [sim.k, hk]) (by rw [hw', sim.s]; exact ss.e)]
      rw [hw', sim.s, ss.s, ss.m]
      have hq0 := (itemsU_ok h).1
      have hkq : (nextT (stm t.w t.a t.s t.n m).s (stm t.w t.a t.s t.n m).n).k ≠ 0 ∨ dl u = [] := by
        rcases hlu with hlu | hlu
        · refine .inl fun e0 => ?_
          rcases (itemsU_ok h).2 with ⟨g, _⟩ | ⟨_, g, _⟩
          · exact hlu (by rw [← g, e0])
          · rw [e0] at g; exact absurd g (by decide)
        · exact .inr hlu
      have sim2 := nextT_sim hu (n' := (stm t.w t'.a (t.s ++ u) t'.n (m + c)).n) hq0 hkq
      obtain ⟨d, d', e1, e2, e3, e4, e5, e6⟩ := items_sim hu hstm hfine hc hlu f1 (l' := l' ++ [(stm t.w t'.a (t.s ++ u) t'.n (m + c)).x]) f2 (nextT_ok hfn.1) (by have := hfn.2.1; omega) hfn.2.2 sim2 h (by simp only [List.length_append, List.length_cons, List.length_nil]; omega) hm
      refine ⟨(stm t.w t.a t.s t.n m).x :: d, (stm t.w t'.a (t.s ++ u) t'.n (m + c)).x :: d', ?_, ?_, sameL_cons ss.x e3, e4, e5, e6⟩
      · rw [e1, List.append_assoc]; rfl
      · rw [e2, List.append_assoc]; rfl
  termination_by f => f
theorem items_len {stm : Wd → Int → ByteArray → Int → Int → SR} {last : Int} : ∀ (f : Nat) {t : Tok} {m : Int} {l : List Itm}, (itemsU stm last f t m l).l.length ≤ l.length + f
  | f, t, m, l => by
    by_cases h : (itemsU stm last f t m l).e = 0
    · obtain ⟨he, ⟨hk, e⟩ | ⟨hl, hk, hs, f', rfl, e⟩⟩ := itemsU_ok h
      · rw [e]; show l.length ≤ _; omega
      · rw [e]
        have := items_len (stm := stm) (last := last) f' (t := nextT (stm t.w t.a t.s t.n m).s (stm t.w t.a t.s t.n m).n) (m := (stm t.w t.a t.s t.n m).m) (l := l ++ [(stm t.w t.a t.s t.n m).x])
        simp only [List.length_append, List.length_cons, List.length_nil] at this
        omega
    · rw [itemsU_err h]; exact Nat.zero_le _
  termination_by f => f
theorem list_sim {u : ByteArray} (hu : U u) : ∀ k, (k ≤ 4 ∨ dl u = []) → RecSim u (listK k) ∧ (k ≤ 4 ∨ dl u = [] → StmSim u (stmK k))
  | 0, _ => by
    have h1 : RecSim u (listK 0) := by
      intro s n n' m c _ _ _ _ h _
      unfold listK at h; exact absurd (show (1 : Int) = 0 from h) (by decide)
    refine ⟨h1, fun _ => ?_⟩
    have := stmtT_sim hu h1 (listK_fine 0) (decide (0 = 0))
    unfold stmK; exact this
  | k + 1, hk => by
    have ih := list_sim hu k (by rcases hk with hk | hk; exact .inl (by omega); exact .inr hk)
    have h1 : RecSim u (listK (k + 1)) := by
      intro s n n' m c hr h0 h6 hc h hm
      rw [listK_succ, fuel0_eq, itemsT_U] at h hm ⊢
      rw [listK_succ, fuel0_eq, itemsT_U]
      have hst := ih.2 (by rcases hk with hk | hk; exact .inl (by omega); exact .inr hk)
      have hlu : lastK k ≠ 0 ∨ dl u = [] := by
        rcases hk with hk | hk
        · refine .inl ?_
          unfold lastK; rw [decide_eq_false (by omega)]; decide
        · exact .inr hk
      have hq0 := (itemsU_ok h).1
      have hkq : (nextT s n).k ≠ 0 ∨ dl u = [] := by
        rcases hlu with hlu | hlu
        · refine .inl fun e0 => ?_
          rcases (itemsU_ok h).2 with ⟨g, _⟩ | ⟨_, g, _⟩
          · exact hlu (by rw [← g, e0])
          · rw [e0] at g; exact absurd g (by decide)
        · exact .inr hlu
      have hfine : ∀ w a s n m, RdOk s n → 0 ≤ m → m ≤ 600 → Fine m (stmK k w a s n m).s (stmK k w a s n m).n (stmK k w a s n m).m := fun w a s n m hr h0 h6 => (stmK_fine k w a hr h0 h6).1
      obtain ⟨d, d', e1, e2, e3, e4, e5, e6⟩ := items_sim hu hst hfine hc hlu 600 (l' := []) 600 (nextT_ok hr) h0 h6 (nextT_sim hu (n' := n') hq0 hkq) h (by
        have := items_len (stm := stmK k) (last := lastK k) 600 (t := nextT s n) (m := m) (l := [])
        exact this) hm
      exact ⟨e4, e5, e6, by rw [e1, e2]; exact e3⟩
    refine ⟨h1, fun _ => ?_⟩
    have := stmtT_sim hu h1 (listK_fine (k + 1)) (decide (k + 1 = 0))
    unfold stmK; exact this
end Go.Proofs.Ytahiigfpikohgaa
end
section
namespace Go.Proofs.Ytahiigfpikohgaa
open Go.VD
set_option linter.unusedVariables false
set_option linter.unusedSimpArgs false
set_option maxRecDepth 100000
mutual
def nI : Itm → Nat
  | .mk _ _ _ ks => nL ks + 1
def nL : List Itm → Nat
  | [] => 0
  | x :: r => nI x + nL r
end
theorem nL_app : ∀ (a b : List Itm), nL (a ++ b) = nL a + nL b
  | [], b => by simp [nL]
  | x :: r, b => by rw [List.cons_append, nL, nL, nL_app r b]; omega
theorem nI_pos (x : Itm) : 1 ≤ nI x := by cases x; simp only [nI]; omega
theorem nL_len : ∀ l : List Itm, l.length ≤ nL l
  | [] => by simp
  | x :: r => by
    have := nL_len r
    have := nI_pos x
    rw [nL, List.length_cons]; omega
mutual
theorem cntI_n : ∀ x : Itm, 2 * nI x ≤ 2000000 → cntI x + 1 = nI x
  | .mk l ws b ks, h => by
    simp only [nI] at h ⊢
    have h1 := nL_len ks
    have := cntA_n ks ks.length (by omega) (by omega) (by omega)
    simp only [cntI]
    rw [this]; omega
theorem cntA_n : ∀ (l : List Itm) (n : Int), 0 ≤ n → 2 * nL l ≤ 2000000 → n + nL l ≤ 2000000 → cntA l n = n + nL l - l.length
  | [], n, _, _, _ => by simp [cntA, nL]
  | x :: r, n, h0, h2, h => by
    simp only [nL] at h h2 ⊢
    have h3 := nL_len r
    have h1 := cntI_n x (by omega)
    have h4 := nI_pos x
    rw [cntA, wrap_i64_of (by omega) (by omega), cntA_n r _ (by omega) (by omega) (by omega)]
    rw [List.length_cons]; omega
end
theorem cntL_n {l : List Itm} (h : nL l ≤ 600) : cntL l = nL l := by
  have := nL_len l
  unfold cntL; rw [cntA_n l _ (by omega) (by omega) (by omega)]; omega
theorem stmtT_ok {rec : ByteArray → Int → Int → LR} {deep : Bool} {w : Wd} {a : Int} {s : ByteArray} {n m : Int} (h : (stmtT rec deep w a s n m).e = 0) :
    m ≠ 600 ∧ ((stmtT rec deep w a s n m = ⟨.mk a (wordsR s n w).1 false [], 0, 0, (wordsR s n w).2.s, (wordsR s n w).2.n, m + 1⟩) ∨
      ((rec (wordsR s n w).2.s (wordsR s n w).2.n (m + 1)).e = 0 ∧ stmtT rec deep w a s n m = ⟨.mk a (wordsR s n w).1 true (rec (wordsR s n w).2.s (wordsR s n w).2.n (m + 1)).l, 0, 0, (rec (wordsR s n w).2.s (wordsR s n w).2.n (m + 1)).s, (rec (wordsR s n w).2.s (wordsR s n w).2.n (m + 1)).n, (rec (wordsR s n w).2.s (wordsR s n w).2.n (m + 1)).m⟩)) := by
  unfold stmtT at h ⊢
  generalize wordsR s n w = r at *
  generalize rec r.2.s r.2.n (m + 1) = q at *
  cases h1 : !headB w.t w.q
  · simp only [h1, cond_false] at h ⊢
    cases h2 : decide (m = 600)
    · simp only [h2, cond_false] at h ⊢
      refine ⟨by simpa using h2, ?_⟩
      cases h3 : !decide (r.2.e = 0)
      · simp only [h3, cond_false] at h ⊢
        cases h4 : decide (r.2.k = 59)
        · simp only [h4, cond_false] at h ⊢
          cases h5 : !decide (r.2.k = 123)
          · simp only [h5, cond_false] at h ⊢
            cases deep
            · simp only [cond_false] at h ⊢
              cases h7 : !decide (q.e = 0)
              · simp only [cond_false]
                exact .inr ⟨bnot_f h7, trivial⟩
              · simp only [h7, cond_true] at h
                exact absurd h (bnot_t h7)
            · exact absurd (show (17 : Int) = 0 from h) (by decide)
          · simp only [h5, cond_true] at h
            exact absurd (show (6 : Int) = 0 from h) (by decide)
        · simp only [cond_true]
          exact .inl trivial
      · simp only [h3, cond_true] at h
        exact absurd h (bnot_t h3)
    · simp only [h2, cond_true] at h
      exact absurd (show (3 : Int) = 0 from h) (by decide)
  · simp only [h1, cond_true] at h
    exact absurd (show (6 : Int) = 0 from h) (by decide)
def RecCnt (rec : ByteArray → Int → Int → LR) : Prop := ∀ s n m, (rec s n m).e = 0 → (rec s n m).m = m + nL (rec s n m).l
def StmCnt (stm : Wd → Int → ByteArray → Int → Int → SR) : Prop := ∀ w a s n m, (stm w a s n m).e = 0 → (stm w a s n m).m = m + nI (stm w a s n m).x
theorem stmtT_cnt {rec : ByteArray → Int → Int → LR} (hrec : RecCnt rec) (deep : Bool) : StmCnt (stmtT rec deep) := by
  intro w a s n m h
  obtain ⟨_, e | ⟨hq, e⟩⟩ := stmtT_ok h
  · rw [e]; simp [nI, nL]
  · rw [e]
    have := hrec _ _ _ hq
    show (rec _ _ _).m = m + ((nI (.mk _ _ _ (rec _ _ _).l) : Nat) : Int)
    rw [this]; simp only [nI]; omega
theorem itemsU_cnt {stm : Wd → Int → ByteArray → Int → Int → SR} (hstm : StmCnt stm) {last : Int} : ∀ (f : Nat) {t : Tok} {m : Int} {l : List Itm}, (itemsU stm last f t m l).e = 0 → (itemsU stm last f t m l).m + nL l = m + nL (itemsU stm last f t m l).l
  | f, t, m, l, h => by
    obtain ⟨he, ⟨hk, e⟩ | ⟨hl, hk, hs, f', rfl, e⟩⟩ := itemsU_ok h
    · rw [e]
    · rw [e] at h ⊢
      have h1 := itemsU_cnt hstm f' h
      have h2 := hstm _ _ _ _ _ hs
      rw [nL_app] at h1
      simp only [nL] at h1
      omega
  termination_by f => f
theorem listK_cnt : ∀ k, RecCnt (listK k) ∧ StmCnt (stmK k)
  | 0 => by
    have h1 : RecCnt (listK 0) := by
      intro s n m h; unfold listK at h; exact absurd (show (1 : Int) = 0 from h) (by decide)
    refine ⟨h1, ?_⟩
    have := stmtT_cnt h1 (decide (0 = 0))
    unfold stmK; exact this
  | k + 1 => by
    have ih := listK_cnt k
    have h1 : RecCnt (listK (k + 1)) := by
      intro s n m h
      rw [listK_succ, fuel0_eq, itemsT_U] at h ⊢
      have := itemsU_cnt ih.2 600 h
      simpa [nL] using this
    refine ⟨h1, ?_⟩
    have := stmtT_cnt h1 (decide (k + 1 = 0))
    unfold stmK; exact this
theorem endT_size (s : ByteArray) (n : Int) (w : ByteArray) (q : Bool) (a : Int) : (endT s n w q a).t.size ≤ 120 := by
  rw [endT_eq]
  cases h : decide (120 < w.size)
  · cases badB s
    · show w.size ≤ 120
      simpa using h
    · exact Nat.zero_le _
  · exact Nat.zero_le _
theorem nextT_size (s : ByteArray) (n : Int) : (nextT s n).t.size ≤ 120 := by
  rw [nextT_eq]
  generalize (skipW (s.size + 1) s n).1 = S
  generalize (skipW (s.size + 1) s n).2 = N
  unfold tokT
  cases decide (S.size = 0)
  · cases decide (bt S 0 = 59) || (decide (bt S 0 = 123) || decide (bt S 0 = 125))
    · cases decide (bt S 0 = 34)
      · cases plB (bt S 0)
        · exact Nat.zero_le _
        · exact endT_size _ _ _ _ _
      · show (quotT S N N).t.size ≤ 120
        unfold quotT
        cases decide ((rs qB (tl1 S)).size = 0)
        · cases !decide (bt (rs qB (tl1 S)) 0 = 34)
          · exact endT_size _ _ _ _ _
          · exact Nat.zero_le _
        · exact Nat.zero_le _
    · exact Nat.zero_le _
  · exact Nat.zero_le _
def WsOk (k : Nat) (ws : List Wd) : Prop := ws.length ≤ k ∧ ∀ w ∈ ws, w.t.size ≤ 120
theorem wordsT_size : ∀ (f : Nat) {s : ByteArray} {n : Int} {ws : List Wd} {k : Nat}, WsOk k ws → WsOk (k + f) (wordsT f s n ws).1 := by
  intro f
  induction f with
  | zero => intro s n ws k h; simp only [wordsT]; exact ⟨Nat.zero_le _, by simp⟩
  | succ f ih =>
    intro s n ws k h
    rw [wordsT_succ f s n ws]
    have hz := nextT_size s n
    generalize nextT s n = t at *
    cases !decide (t.e = 0)
    · cases !decide (t.k = 34)
      · cases decide (ws.length = 40)
        · have := ih (s := t.s) (n := t.n) (ws := ws ++ [t.w]) (k := k + 1) ⟨by simp only [List.length_append, List.length_cons, List.length_nil]; have := h.1; omega, fun w hw => by
            rcases List.mem_append.1 hw with hw | hw
            · exact h.2 w hw
            · rw [List.mem_singleton] at hw; subst hw; exact hz⟩
          rw [show k + (f + 1) = k + 1 + f by omega]
          exact this
        · exact ⟨Nat.zero_le _, by simp⟩
      · exact ⟨by show ws.length ≤ _; have := h.1; omega, h.2⟩
    · exact ⟨Nat.zero_le _, by simp⟩
theorem wordsR_size {s : ByteArray} {n : Int} {w : Wd} (h : w.t.size ≤ 120) : WsOk 41 (wordsR s n w).1 := by
  unfold wordsR
  exact wordsT_size 40 (k := 1) ⟨by simp, fun v hv => by rw [List.mem_singleton] at hv; subst hv; exact h⟩
theorem okL_app : ∀ {a b : List Itm}, okL a → okL b → okL (a ++ b)
  | [], b, _, h => h
  | x :: r, b, ha, hb => by
    simp only [okL] at ha
    rw [List.cons_append, okL]
    exact ⟨ha.1, okL_app ha.2 hb⟩
def RecOk (rec : ByteArray → Int → Int → LR) : Prop := ∀ s n m, (rec s n m).e = 0 → okL (rec s n m).l ∧ (rec s n m).l.length ≤ 601
def StmOk (stm : Wd → Int → ByteArray → Int → Int → SR) : Prop := ∀ w a s n m, w.t.size ≤ 120 → (stm w a s n m).e = 0 → okI (stm w a s n m).x
theorem stmtT_okI {rec : ByteArray → Int → Int → LR} (hrec : RecOk rec) (deep : Bool) : StmOk (stmtT rec deep) := by
  intro w a s n m hw h
  have hz := @wordsR_size s n w hw
  have hz1 : (wordsR s n w).1.length ≤ maxLen := by have := hz.1; unfold maxLen; omega
  have hz2 : ∀ v ∈ (wordsR s n w).1, v.t.size ≤ maxLen := fun v hv => by have := hz.2 v hv; unfold maxLen; omega
  obtain ⟨_, e | ⟨hq, e⟩⟩ := stmtT_ok h
  · rw [e]
    simp only [okI, okL]
    exact ⟨⟨hz1, Nat.zero_le _⟩, hz2, trivial⟩
  · rw [e]
    have h2 := hrec _ _ _ hq
    simp only [okI]
    exact ⟨⟨hz1, by have := h2.2; unfold maxLen; omega⟩, hz2, h2.1⟩
theorem itemsU_okL {stm : Wd → Int → ByteArray → Int → Int → SR} (hstm : StmOk stm) {last : Int} : ∀ (f : Nat) {t : Tok} {m : Int} {l : List Itm}, t.t.size ≤ 120 → okL l → (itemsU stm last f t m l).e = 0 → okL (itemsU stm last f t m l).l
  | f, t, m, l, hz, hl0, h => by
    obtain ⟨he, ⟨hk, e⟩ | ⟨hl, hk, hs, f', rfl, e⟩⟩ := itemsU_ok h
    · rw [e]; exact hl0
    · rw [e] at h ⊢
      exact itemsU_okL hstm f' (nextT_size _ _) (okL_app hl0 (by simp only [okL]; exact ⟨hstm _ _ _ _ _ hz hs, trivial⟩)) h
  termination_by f => f
theorem listK_okL : ∀ k, RecOk (listK k) ∧ StmOk (stmK k)
  | 0 => by
    have h1 : RecOk (listK 0) := by
      intro s n m h; unfold listK at h; exact absurd (show (1 : Int) = 0 from h) (by decide)
    refine ⟨h1, ?_⟩
    have := stmtT_okI h1 (decide (0 = 0))
    unfold stmK; exact this
  | k + 1 => by
    have ih := listK_okL k
    have h1 : RecOk (listK (k + 1)) := by
      intro s n m h
      rw [listK_succ, fuel0_eq, itemsT_U] at h ⊢
      refine ⟨itemsU_okL ih.2 600 (nextT_size _ _) (by simp only [okL]) h, ?_⟩
      have := items_len (stm := stmK k) (last := lastK k) 600 (t := nextT s n) (m := m) (l := [])
      simp only [List.length_nil] at this
      omega
    refine ⟨h1, ?_⟩
    have := stmtT_okI h1 (decide (k + 1 = 0))
    unfold stmK; exact this
theorem parseT_eq (s : ByteArray) : parseT s = bif decide (12000 < s.size) then ⟨[], 0, 4, ⟨#[]⟩, 0, 0⟩ else listK 5 s 1 0 := by unfold parseT; rfl
theorem lastK4 : lastK 4 = 0 := rfl
theorem parseT_ok {s : ByteArray} (h : (parseT s).e = 0) : s.size ≤ 12000 ∧ parseT s = itemsU (stmK 4) 0 600 (nextT s 1) 0 [] := by
  rw [parseT_eq] at h ⊢
  cases h1 : decide (12000 < s.size)
  · refine ⟨by simpa using h1, ?_⟩
    rw [cond_false, listK_succ, fuel0_eq, itemsT_U, lastK4]
  · rw [h1] at h; exact absurd (show (4 : Int) = 0 from h) (by decide)
theorem parseT_okL {s : ByteArray} (h : (parseT s).e = 0) : okL (parseT s).l ∧ (parseT s).l.length ≤ 601 ∧ (parseT s).m = nL (parseT s).l ∧ nL (parseT s).l ≤ 600 := by
  obtain ⟨h1, _⟩ := parseT_ok h
  have hr : RdOk s 1 := ⟨by omega, by omega⟩
  have e : parseT s = listK 5 s 1 0 := by rw [parseT_eq, decide_eq_false (show ¬ 12000 < s.size by omega), cond_false]
  rw [e] at h ⊢
  have a1 := (listK_okL 5).1 _ _ _ h
  have a2 := (listK_cnt 5).1 _ _ _ h
  have a3 := listK_fine 5 s 1 0 hr (by omega) (by omega)
  refine ⟨a1.1, a1.2, by omega, ?_⟩
  have := a3.2.2
  omega
theorem items_concat {t u : ByteArray} (hu : dl u = 10 :: dl t) {stm : Wd → Int → ByteArray → Int → Int → SR} (hstm : StmSim u stm) (hstm0 : StmSim ⟨#[]⟩ stm) (hfine : ∀ w a s n m, RdOk s n → 0 ≤ m → m ≤ 600 → Fine m (stm w a s n m).s (stm w a s n m).n (stm w a s n m).m)
    (ht : RdOk t 1) (hB : (itemsU stm 0 600 (nextT t 1) 0 []).e = 0) : ∀ (f : Nat) {t1 t2 : Tok} {m : Int} {l l2 : List Itm} (f2 : Nat), RdOk t1.s t1.n → 0 ≤ m → m ≤ 600 → (t1.k ≠ 0 → TokSim u t1 t2) → (t1.k = 0 → TokSim ⟨#[]⟩ (nextT t 1) t2) →
      (itemsU stm 0 f t1 m l).e = 0 → (itemsU stm 0 f t1 m l).m + (itemsU stm 0 600 (nextT t 1) 0 []).m ≤ 600 → (itemsU stm 0 f t1 m l).l.length + (itemsU stm 0 600 (nextT t 1) 0 []).l.length ≤ l.length + f2 →
      ∃ d d', (itemsU stm 0 f t1 m l).l = l ++ d ∧ (itemsU stm 0 f2 t2 m l2).l = l2 ++ d' ∧ sameL d' (d ++ (itemsU stm 0 600 (nextT t 1) 0 []).l) = true ∧ (itemsU stm 0 f2 t2 m l2).e = 0
  | f, t1, t2, m, l, l2, f2, hr, h0, h6, s1, s2, h, hm, hl => by
    obtain ⟨he, ⟨hk, e⟩ | ⟨hk0, hk, hs, f1, rfl, e⟩⟩ := itemsU_ok h
    · rw [e] at hm hl ⊢
      have hm : m + (itemsU stm 0 600 (nextT t 1) 0 []).m ≤ 600 := hm
      have hl : l.length + (itemsU stm 0 600 (nextT t 1) 0 []).l.length ≤ l.length + f2 := hl
      obtain ⟨d, d', e1, e2, e3, e4, _, _⟩ := items_sim (u := ⟨#[]⟩) (.inl rfl) hstm0 hfine (last := 0) (c := m) h0 (.inr rfl) 600 (t := nextT t 1) (t' := t2) (m := 0) (l := []) (l' := l2) f2 (nextT_ok ht) (by omega) (by omega) (s2 hk) hB (by simp only [List.length_nil]; omega) (by omega)
      rw [Int.zero_add] at e2 e4
      refine ⟨[], d', by simp, e2, ?_, e4⟩
      rw [List.nil_append, e1, List.nil_append]; exact e3
    · have sim := s1 hk0
      rw [e] at h hm hl ⊢
      obtain ⟨d0, hd0⟩ := itemsU_grow f1 h
      have hfn := hfine t1.w t1.a t1.s t1.n m hr h0 h6
      obtain ⟨f3, rfl⟩ : ∃ f3, f2 = f3 + 1 := by
        refine ⟨f2 - 1, ?_⟩
        rw [hd0] at hl
        simp only [List.length_append, List.length_cons, List.length_nil] at hl
        omega
      have uu : U u := .inr ⟨_, hu⟩
      have ss := hstm t1.w t1.a t2.a t1.s t1.n t2.n m 0 hr h0 h6 (Int.le_refl 0) hs (by have := hfn.2.2; omega)
      rw [Int.add_zero] at ss
      have hw' : t2.w = t1.w := by unfold Tok.w; rw [sim.t, sim.q]
      rw [itemsU_step (f := f3) (by rw [sim.e, he]) (by rw [sim.k]; exact hk0) (by rw [sim.k, hk]) (by rw [hw', sim.s]; exact ss.e)]
      rw [hw', sim.s, ss.s, ss.m, Int.add_zero]
      have hq0 := (itemsU_ok h).1
      obtain ⟨d, d', e1, e2, e3, e4⟩ := items_concat hu hstm hstm0 hfine ht hB f1 (l2 := l2 ++ [(stm t1.w t2.a (t1.s ++ u) t2.n m).x]) f3 (nextT_ok hfn.1) (by have := hfn.2.1; omega) hfn.2.2
        (fun hk => nextT_sim uu (n' := (stm t1.w t2.a (t1.s ++ u) t2.n m).n) hq0 (.inl hk)) (fun hk => nextT_end hu (n' := (stm t1.w t2.a (t1.s ++ u) t2.n m).n) hq0 hk (itemsU_ok hB).1) h hm (by simp only [List.length_append, List.length_cons, List.length_nil]; omega)
      refine ⟨(stm t1.w t1.a t1.s t1.n m).x :: d, (stm t1.w t2.a (t1.s ++ u) t2.n m).x :: d', ?_, ?_, ?_, e4⟩
      · rw [e1, List.append_assoc]; rfl
      · rw [e2, List.append_assoc]; rfl
      · rw [List.cons_append]; exact sameL_cons ss.x e3
  termination_by f => f
theorem parse_concat {s t : ByteArray} (hs : (parseT s).e = 0) (ht : (parseT t).e = 0) (hz : s.size + t.size + 1 ≤ 12000) (hn : nL (parseT s).l + nL (parseT t).l ≤ 600) :
    (parseT (s ++ ⟨#[10]⟩ ++ t)).e = 0 ∧ sameL (parseT (s ++ ⟨#[10]⟩ ++ t)).l ((parseT s).l ++ (parseT t).l) = true := by
  have os := parseT_okL hs
  have ot := parseT_okL ht
  obtain ⟨zs, es⟩ := parseT_ok hs
  obtain ⟨zt, et⟩ := parseT_ok ht
  have hu : dl ((⟨#[10]⟩ : ByteArray) ++ t) = 10 :: dl t := by rw [dl_app]; rfl
  have ea : s ++ ⟨#[10]⟩ ++ t = s ++ ((⟨#[10]⟩ : ByteArray) ++ t) := ba_ext (by rw [dl_app, dl_app, dl_app, dl_app, List.append_assoc])
  rw [ea]
  have uu : U ((⟨#[10]⟩ : ByteArray) ++ t) := .inr ⟨_, hu⟩
  have zu : (s ++ ((⟨#[10]⟩ : ByteArray) ++ t)).size = s.size + t.size + 1 := by
    rw [app_size, app_size]; show s.size + (1 + t.size) = _; omega
  generalize ((⟨#[10]⟩ : ByteArray) ++ t) = u at *
  have hfine : ∀ w a s n m, RdOk s n → 0 ≤ m → m ≤ 600 → Fine m (stmK 4 w a s n m).s (stmK 4 w a s n m).n (stmK 4 w a s n m).m := fun w a s n m hr h0 h6 => (stmK_fine 4 w a hr h0 h6).1
  have eu : parseT (s ++ u) = itemsU (stmK 4) 0 600 (nextT (s ++ u) 1) 0 [] := by
    rw [parseT_eq, decide_eq_false (show ¬ 12000 < (s ++ u).size by omega), cond_false, listK_succ, fuel0_eq, itemsT_U, lastK4]
  have rs1 : RdOk s 1 := ⟨by omega, by omega⟩
  have rt1 : RdOk t 1 := ⟨by omega, by omega⟩
  have ns := nL_len (parseT s).l
  have nt := nL_len (parseT t).l
  have ms := os.2.2.1
  have mt := ot.2.2.1
  rw [es] at hs
  rw [et] at ht
  have hq0 := (itemsU_ok hs).1
  have st := (list_sim uu 4 (.inl (by omega))).2 (.inl (by omega))
  have st0 := (list_sim (u := ⟨#[]⟩) (.inl rfl) 4 (.inl (by omega))).2 (.inl (by omega))
  obtain ⟨d, d', e1, e2, e3, e4⟩ := items_concat hu st st0 hfine rt1 ht 600 (t1 := nextT s 1) (t2 := nextT (s ++ u) 1) (m := 0) (l := []) (l2 := []) 600 (nextT_ok rs1) (by omega) (by omega)
    (fun hk => nextT_sim uu hq0 (.inl hk)) (fun hk => nextT_end hu hq0 hk (itemsU_ok ht).1) hs (by rw [← es, ← et]; omega) (by rw [← es, ← et]; simp only [List.length_nil]; omega)
  rw [← eu] at e2 e4
  rw [← es] at e1
  rw [← et] at e3
  refine ⟨e4, ?_⟩
  rw [e2, e1]; exact e3
end Go.Proofs.Ytahiigfpikohgaa
end
section
namespace Go.Proofs.Ytahiigfpikohgaa
open Go.VD
set_option linter.unusedVariables false
set_option linter.unusedSimpArgs false
set_option maxRecDepth 100000
theorem lawConcat_pure (s t : ByteArray) (hpre : s.size ≤ maxLen ∧ t.size ≤ maxLen) : PureJ Try.prog 5 [.v (.string s), .v (.string t)] (.v (.bool true)) := by
  refine pureJ_of_vcx (call := (addPure 6 ent_synKnown (addPure 16 ent_parse (addPure 12 ent_cnt (addPure 14 ent_same noCalls))))) (lp := fun _ => none) (N := 10) T_ok mixed (addPure_ok ent_synKnown_ok (addPure_ok ent_parse_ok (addPure_ok ent_cnt_ok (addPure_ok ent_same_ok noCalls_ok)))) Try.func5 rfl (by decide) (by kernel_rfl) (by kernel_rfl) (LpAll.none _) (by first | trivial | (simp only [NamelessL, Nameless, and_self, and_true, true_and]; done) | (simp [NamelessL, Nameless, u32s_nameless, namelessL_ints]; done)) (by first | trivial | (simp only [NamelessL, Nameless, and_self, and_true, true_and]; done) | (simp [NamelessL, Nameless, u32s_nameless, namelessL_ints]; done)) ?_
  refine of_eq (B := letI z3 := (LR.l (parseT s)); letI z15 := List.length z3; letI z6 := ((0 : Nat) + z15); letI z10 := (([] : List D) ++ (List.take (z15 * (4 : Nat)) (itemsD z3))); letI z8 := (List.length (LR.l (parseT t))); letI z5 := (itemsD (LR.l (parseT t))); letI z0 := ((List.take (z6 * (4 : Nat)) z10) ++ (List.take (z8 * (4 : Nat)) z5)); letI z1 := (z6 + z8); letI z9 := (D.v (Value.bool Bool.true)); letI z2 := (True ∧ (True ∧ (True ∧ (z9 = z9)))); letI z13 := (s ++ (ByteArray.mk (Array.mk [(10 : UInt8)]))); letI z4 := (parseT (z13 ++ t)); letI z7 := (9223372036854775807 : Nat); letI z11 := (unI (itemsD z3)); letI z12 := (List.take (z1 * (4 : Nat)) (List.drop (0 : Nat) z0)); letI z14 := ((0 : Nat) < (4 : Nat)); letI z16 := (True ∧ (True ∧ (True ∧ z2))); letI z17 := (9223372036854775807 : Int); letI z18 := ((22 : Nat) = (22 : Nat)); letI z19 := ((36 : Nat) = (36 : Nat)); letI z20 := ((4 : Nat) = (4 : Nat)); letI z21 := (140737488355328 : Nat); letI z22 := (List.length (unI z5)); (True ∧ (True ∧ (True ∧ (True ∧ (True ∧ (True ∧ (True ∧ (True ∧ (True ∧ (True ∧ (True ∧ (True ∧ (True ∧ (True ∧ (True ∧ (True ∧ (True ∧ (True ∧ (True ∧ (True ∧ (True ∧ (True ∧ (True ∧ (True ∧ (pcond ((LR.e (parseT s)) != (0 : Int)) (True ∧ (True ∧ z16)) (True ∧ (True ∧ (True ∧ (True ∧ (pcond ((LR.e (parseT t)) != (0 : Int)) z16 (True ∧ (True ∧ (True ∧ (True ∧ (True ∧ (True ∧ (True ∧ (True ∧ (True ∧ (pcond (Decidable.decide ((12000 : Int) < (IntKind.wrap IntKind.i64 ((IntKind.wrap IntKind.i64 ((((ByteArray.size s) : Nat) : Int) + (((ByteArray.size t) : Nat) : Int))) + (1 : Int))))) (True ∧ z2) (True ∧ (((((itemsD z3) = (itemsD z11)) ∧ (z15 = (List.length z11))) ∧ ((okL z11) ∧ ((List.length z11) ≤ z7))) ∧ (True ∧ ((((z5 = (itemsD (unI z5))) ∧ (z8 = z22)) ∧ ((okL (unI z5)) ∧ (z22 ≤ z7))) ∧ (True ∧ (True ∧ (True ∧ (pcond (Decidable.decide ((600 : Int) < (IntKind.wrap IntKind.i64 ((cntL z11) + (cntL (unI z5)))))) z2 (True ∧ ((((((ByteArray.size s) + (1 : Nat)) : Nat) : Int) ≤ z17) ∧ (True ∧ ((((((ByteArray.size z13) + (ByteArray.size t)) : Nat) : Int) ≤ z17) ∧ (True ∧ (True ∧ (True ∧ (True ∧ (True ∧ (True ∧ (True ∧ (True ∧ (True ∧ (True ∧ (True ∧ (pcond ((LR.e z4) == (0 : Int)) (True ∧ ((((0 : Nat) ≤ (16777216 : Nat)) ∧ ((0 : Nat) ≤ z7)) ∧ (True ∧ ((((z15 * (4 : Nat)) ≤ (List.length (itemsD z3))) ∧ (z18 ∧ (z20 ∧ (z19 ∧ (((0 : Nat) ≤ (0 : Nat)) ∧ (z14 ∧ ((z6 ≤ z7) ∧ ((z6 * (64 : Nat)) ≤ z21)))))))) ∧ (True ∧ ((((z8 * (4 : Nat)) ≤ (List.length z5)) ∧ (z18 ∧ (z20 ∧ (z19 ∧ (((z6 * (4 : Nat)) ≤ (List.length z10)) ∧ (z14 ∧ ((z1 ≤ z7) ∧ ((z1 * (64 : Nat)) ≤ z21)))))))) ∧ (((True ∧ (((NamelessL z0) ∧ (z14 ∧ (((0 : Nat) + (z1 * (4 : Nat))) ≤ (List.length z0)))) ∧ True)) ∧ ((IOk (List.length (LR.l z4)) (itemsD (LR.l z4))) ∧ (IOk z1 z12))) ∧ (True ∧ (True ∧ (True ∧ (True ∧ ((D.v (Value.bool (sameL (unI (itemsD (LR.l z4))) (unI z12)))) = z9)))))))))))) (True ∧ (True ∧ (True ∧ (True ∧ ((D.v (Value.bool Bool.false)) = z9)))))))))))))))))))))))))))))))))))))))))))))))))))))))))))))))))))))) (by kernel_rfl) ?_
  simp only [true_and, and_true, and_self, IsInt_lit, IsBool_lit, IsStr_lit, IsSl_lit, cellN_lit, cellL_lit, Bool.not_eq_true', Bool.not_eq_false', Bool.not_true, Bool.not_false, Int.reduceLE, Int.reduceLT, Int.reduceNeg, Nat.le_refl, Int.le_refl, Nat.reduceLT, Nat.reduceLeDiff, Nat.reduceEqDiff, D.v.injEq, D.tup.injEq, D.agg.injEq, D.ro.injEq, List.cons.injEq, Value.int.injEq, Value.bool.injEq, pcond_true, pcond_false, NamelessL, Nameless, Nat.reduceMul, Nat.reduceAdd, Nat.zero_add, Int.toNat_natCast, IOk_lit, unI_itemsD]
  obtain ⟨hs, ht⟩ := hpre
  simp only [maxLen] at hs ht
  refine pcond_intro (fun _ => trivial) (fun h1 => pcond_intro (fun _ => trivial) (fun h2 => pcond_intro (fun _ => trivial) (fun h3 => ?_)))
  have e1 : (parseT s).e = 0 := by simpa using h1
  have e2 : (parseT t).e = 0 := by simpa using h2
  have z1 := (parseT_ok e1).1
  have z2 := (parseT_ok e2).1
  rw [decide_eq_false_iff_not, wrap_i64_of (n := (s.size : Int) + t.size) (by omega) (by omega), wrap_i64_of (by omega) (by omega)] at h3
  obtain ⟨o1, l1, m1, n1⟩ := parseT_okL e1
  obtain ⟨o2, l2, m2, n2⟩ := parseT_okL e2
  have hz : s.size + t.size + 1 ≤ 12000 := by omega
  refine ⟨⟨o1, by omega⟩, ⟨o2, by omega⟩, pcond_intro (fun _ => trivial) (fun h4 => ⟨by omega, ?_, ?_⟩)⟩
  · rw [show (⟨⟨[10]⟩⟩ : ByteArray) = ⟨#[10]⟩ from rfl, app_size, show (⟨#[10]⟩ : ByteArray).size = 1 from rfl]; omega
  · rw [decide_eq_false_iff_not, cntL_n n1, cntL_n n2, wrap_i64_of (by omega) (by omega)] at h4
    have main := parse_concat e1 e2 hz (by omega)
    rw [show (⟨⟨[10]⟩⟩ : ByteArray) = ⟨#[10]⟩ from rfl]
    have ox := parseT_okL main.1
    generalize parseT (s ++ ⟨#[10]⟩ ++ t) = X at *
    generalize (parseT s).l = a at *
    generalize (parseT t).l = b at *
    rw [main.1, beq_self_eq_true, pcond_true]
    have i1 := itemsD_length a
    have i2 := itemsD_length b
    have i3 := itemsD_length (a ++ b)
    have i4 : (a ++ b).length = a.length + b.length := List.length_append
    have t1 : List.take (a.length * 4) (itemsD a) = itemsD a := List.take_of_length_le (by omega)
    have t2 : List.take (b.length * 4) (itemsD b) = itemsD b := List.take_of_length_le (by omega)
    have t3 : List.take ((a ++ b).length * 4) (itemsD (a ++ b)) = itemsD (a ++ b) := List.take_of_length_le (by omega)
    rw [t1, List.nil_append, t1, t2, ← itemsD_app, List.drop_zero, ← i4, t3, IOk_lit, unI_itemsD]
    have om := okL_app o1 o2
    refine ⟨⟨by omega, by omega, by omega⟩, ⟨by omega, by omega, by omega, by omega⟩, ⟨⟨itemsD_nl _, by omega⟩, ⟨by unfold maxLen; omega, ox.1⟩, by unfold maxLen; omega, om⟩, main.2⟩
end Go.Proofs.Ytahiigfpikohgaa
end
