import Derived.WalkKit
import Derived.Orders
section
namespace Go.VD
set_option linter.unusedVariables false
inductive Cap where
  | exact (c es : Nat)
  | toEnd (es : Nat)
inductive D where
  | v (x : Value)
  | ro (n : Nat) (xs : List D)
  | rp (xs : List D) (j : Nat)
  | sl (b off n : Nat) (c : Cap)
  | ptr (b off : Nat)
  | agg (xs : List D)
  | tup (xs : List D)
  | ifc (t : TypeId) (d : D)
  | fn (f : FuncId) (k : Nat) (caps : List D)
instance : Inhabited D := ⟨.v undef⟩
structure Blk where
  ty : TypeId
  cs : List D
  full : Bool
instance : Inhabited Blk := ⟨⟨0, [], false⟩⟩
abbrev Heap := List (Option Blk)
def Live (ρ : Nat → Nat × Nat) (H : Heap) (k : Nat) : Prop := ∃ b blk, H[b]? = some (some blk) ∧ 0 < (ρ b).2 ∧ (ρ b).1 = k
structure Ctx where
  ρ : Nat → Nat × Nat
  S : Nat → Prop
  w : World
  H : Heap
def Fix (E : Ctx) (k : Nat) : Prop := k < E.w.heap.size ∧ ¬ Live E.ρ E.H k
mutual
def Nameless : D → Prop
  | .v _ => True
  | .ro _ xs => NamelessL xs
  | .rp xs _ => NamelessL xs
  | .sl .. => False
  | .ptr .. => False
  | .agg xs => NamelessL xs
  | .tup xs => NamelessL xs
  | .ifc _ d => Nameless d
  | .fn _ _ caps => NamelessL caps
def NamelessL : List D → Prop
  | [] => True
  | d :: ds => Nameless d ∧ NamelessL ds
end
theorem NamelessL.iff : ∀ {ds : List D}, NamelessL ds ↔ ∀ d ∈ ds, Nameless d
  | [] => by simp [NamelessL]
  | d :: ds => by simp [NamelessL, NamelessL.iff (ds := ds)]
theorem NamelessL.take {ds : List D} (h : NamelessL ds) (n : Nat) : NamelessL (ds.take n) := NamelessL.iff.2 fun d hd => NamelessL.iff.1 h d (List.mem_of_mem_take hd)
theorem NamelessL.drop {ds : List D} (h : NamelessL ds) (n : Nat) : NamelessL (ds.drop n) := NamelessL.iff.2 fun d hd => NamelessL.iff.1 h d (List.mem_of_mem_drop hd)
theorem NamelessL.append {ds es : List D} (h : NamelessL ds) (k : NamelessL es) : NamelessL (ds ++ es) := NamelessL.iff.2 fun d hd => by
  rcases List.mem_append.1 hd with hd | hd
  · exact NamelessL.iff.1 h d hd
  · exact NamelessL.iff.1 k d hd
theorem NamelessL.map {α : Type} (f : α → D) (h : ∀ x, Nameless (f x)) (l : List α) : NamelessL (l.map f) := NamelessL.iff.2 fun d hd => by
  obtain ⟨x, _, rfl⟩ := List.mem_map.1 hd; exact h x
def itTy : TypeId := 1000000007
def ifcV (t : TypeId) (x : Value) : Value := if t = itTy then (match x with | .pointer (some a) => .map (some a.block) | v => .iface t v) else .iface t x
theorem ifcV_ne {t : TypeId} (h : t ≠ itTy) (x : Value) : ifcV t x = .iface t x := if_neg h
theorem ifcV_map (a : Addr) : ifcV itTy (.pointer (some a)) = .map (some a.block) := if_pos rfl
theorem ifcV_one (t : TypeId) (x : Value) : (ifcV t x).oneCell' = true ∧ (ifcV t x).cells = #[ifcV t x] := by
  unfold ifcV
  split
  · split <;> exact ⟨rfl, rfl⟩
  · exact ⟨rfl, rfl⟩
mutual
def Rd (E : Ctx) : D → Value → Prop
  | .v x, u => u = x
  | .ro n xs, u => NamelessL xs ∧ ∃ A c, u = .slice A n c ∧ n ≤ c ∧ c ≤ maxLen ∧ (0 < n → ∃ ad : Addr, A = some ad ∧ E.S ad.block ∧ RdAt E xs ad 0)
  | .rp xs j, u => NamelessL xs ∧ ∃ ad : Addr, u = .pointer (some (ad.add j)) ∧ E.S ad.block ∧ RdAt E xs ad 0
  | .sl b off n (.exact c _), u => b < E.H.length ∧ n ≤ c ∧ c ≤ maxLen ∧ ∃ A, u = .slice A n c ∧ (0 < c → A = some ⟨(E.ρ b).1, off, none⟩)
  | .sl b off n (.toEnd es), u => b < E.H.length ∧ ∃ A c, u = .slice A n c ∧ n ≤ c ∧ c ≤ maxLen ∧ off + c * es = (E.ρ b).2 ∧ (0 < c → A = some ⟨(E.ρ b).1, off, none⟩)
  | .ptr b off, u => b < E.H.length ∧ u = .pointer (some ⟨(E.ρ b).1, off, none⟩)
  | .agg xs, u => ∃ us : Array Value, u = .agg us ∧ RdL E xs us.toList
  | .tup xs, u => ∃ us : Array Value, u = .tuple us ∧ RdT E xs us.toList
  | .ifc t d, u => ∃ x, u = ifcV t x ∧ Rd E d x
  | .fn f k caps, u => ∃ fs us : Array Value, u = .func (.func f) fs us ∧ fs.size = k ∧ RdT E caps (fs.toList ++ us.toList)
def RdAt (E : Ctx) : List D → Addr → Nat → Prop
  | [], _, _ => True
  | d :: ds, ad, j => (∃ u, E.w.cell? (ad.add j) = some u ∧ u.oneCell' = true ∧ Rd E d u) ∧ RdAt E ds ad (j + 1)
def RdL (E : Ctx) : List D → List Value → Prop
  | [], us => us = []
  | d :: ds, us => ∃ u r, us = u :: r ∧ u.oneCell' = true ∧ Rd E d u ∧ RdL E ds r
def RdT (E : Ctx) : List D → List Value → Prop
  | [], us => us = []
  | d :: ds, us => ∃ u r, us = u :: r ∧ Rd E d u ∧ RdT E ds r
end
structure Ctx.le (E E' : Ctx) : Prop where
  N : E.H.length ≤ E'.H.length
  ρ : ∀ b, b < E.H.length → E'.ρ b = E.ρ b
  S : ∀ k, E.S k → E'.S k
  keep : ∀ k, E.S k → E'.w.heap[k]? = E.w.heap[k]?
  new : ∀ k, E'.S k → E.S k ∨ Live E.ρ E.H k ∨ E.w.heap.size ≤ k
  fix : ∀ k, Fix E k → Fix E' k
  heap : ∀ k, Fix E k → E'.w.heap[k]? = E.w.heap[k]?
  size : E.w.heap.size ≤ E'.w.heap.size
  os : E'.w.os = E.w.os
  tape : E'.w.tape = E.w.tape
  output : E'.w.output = E.w.output
theorem Ctx.le.refl (E : Ctx) : E.le E := ⟨Nat.le_refl _, fun _ _ => rfl, fun _ h => h, fun _ _ => rfl, fun _ h => .inl h, fun _ h => h, fun _ _ => rfl, Nat.le_refl _, rfl, rfl, rfl⟩
theorem Ctx.le.trans {E E' E'' : Ctx} (h : E.le E') (k : E'.le E'') : E.le E'' :=
  ⟨Nat.le_trans h.N k.N, fun b hb => (k.ρ b (Nat.lt_of_lt_of_le hb h.N)).trans (h.ρ b hb), fun x hx => k.S x (h.S x hx), fun x hx => (k.keep x (h.S x hx)).trans (h.keep x hx),
    fun x hx => by
      rcases k.new x hx with h1 | h1 | h1
      · exact h.new x h1
      · by_cases hl : Live E.ρ E.H x
        · exact .inr (.inl hl)
        · rcases Nat.lt_or_ge x E.w.heap.size with h2 | h2
          · exact absurd h1 (h.fix x ⟨h2, hl⟩).2
          · exact .inr (.inr h2)
      · exact .inr (.inr (Nat.le_trans h.size h1)),
    fun x hx => k.fix x (h.fix x hx), fun x hx => (k.heap x (h.fix x hx)).trans (h.heap x hx),
    Nat.le_trans h.size k.size, k.os.trans h.os, k.tape.trans h.tape, k.output.trans h.output⟩
theorem block_add (a : Addr) (n : Nat) : (a.add n).block = a.block := by unfold Addr.add; split <;> rfl
mutual
theorem Rd.mono {E E' : Ctx} (h : E.le E') : ∀ (d : D) (u : Value), Rd E d u → Rd E' d u
  | .v x, u, hr => by simp only [Rd] at hr ⊢; exact hr
  | .ro n xs, u, hr => by
    simp only [Rd] at hr ⊢
    obtain ⟨hn, A, c, h1, h2, h3, h4⟩ := hr
    refine ⟨hn, A, c, h1, h2, h3, fun hx => ?_⟩
    obtain ⟨ad, e, hs, ha⟩ := h4 hx
    exact ⟨ad, e, h.S _ hs, RdAt.mono h xs ad 0 hs ha⟩
  | .rp xs j, u, hr => by
    simp only [Rd] at hr ⊢
    obtain ⟨hn, ad, e, hs, ha⟩ := hr
    exact ⟨hn, ad, e, h.S _ hs, RdAt.mono h xs ad 0 hs ha⟩
  | .sl b off n (.exact c _), u, hr => by
    simp only [Rd] at hr ⊢
    obtain ⟨hb, h1, h2, A, h3, h4⟩ := hr
    exact ⟨Nat.lt_of_lt_of_le hb h.N, h1, h2, A, h3, by rw [h.ρ b hb]; exact h4⟩
  | .sl b off n (.toEnd es), u, hr => by
    simp only [Rd] at hr ⊢
    obtain ⟨hb, A, c, h1, h2, h3, h4, h5⟩ := hr
    exact ⟨Nat.lt_of_lt_of_le hb h.N, A, c, h1, h2, h3, by rw [h.ρ b hb]; exact h4, by rw [h.ρ b hb]; exact h5⟩
  | .ptr b off, u, hr => by
    simp only [Rd] at hr ⊢
    exact ⟨Nat.lt_of_lt_of_le hr.1 h.N, by rw [h.ρ b hr.1]; exact hr.2⟩
  | .agg xs, u, hr => by
    simp only [Rd] at hr ⊢
    obtain ⟨us, e, hl⟩ := hr
    exact ⟨us, e, RdL.mono h xs _ hl⟩
  | .tup xs, u, hr => by
    simp only [Rd] at hr ⊢
    obtain ⟨us, e, hl⟩ := hr
    exact ⟨us, e, RdT.mono h xs _ hl⟩
  | .ifc t d, u, hr => by
    simp only [Rd] at hr ⊢
    obtain ⟨x, e, hx⟩ := hr
    exact ⟨x, e, Rd.mono h d x hx⟩
  | .fn f k caps, u, hr => by
    simp only [Rd] at hr ⊢
    obtain ⟨fs, us, e, hk, hl⟩ := hr
    exact ⟨fs, us, e, hk, RdT.mono h caps _ hl⟩
theorem RdAt.mono {E E' : Ctx} (h : E.le E') : ∀ (ds : List D) (ad : Addr) (j : Nat), E.S ad.block → RdAt E ds ad j → RdAt E' ds ad j
  | [], _, _, _, _ => by simp only [RdAt]
  | d :: ds, ad, j, hs, hr => by
    simp only [RdAt] at hr ⊢
    obtain ⟨⟨u, hc, ho, hd⟩, hr⟩ := hr
    refine ⟨⟨u, ?_, ho, Rd.mono h d u hd⟩, RdAt.mono h ds ad (j + 1) hs hr⟩
    rw [World.cell?_of_block (w := E.w) (h.keep _ (by rw [block_add]; exact hs))]
    exact hc
theorem RdL.mono {E E' : Ctx} (h : E.le E') : ∀ (ds : List D) (us : List Value), RdL E ds us → RdL E' ds us
  | [], us, hr => by simp only [RdL] at hr ⊢; exact hr
  | d :: ds, us, hr => by
    simp only [RdL] at hr ⊢
    obtain ⟨u, r, e, ho, hd, hr⟩ := hr
    exact ⟨u, r, e, ho, Rd.mono h d u hd, RdL.mono h ds r hr⟩
theorem RdT.mono {E E' : Ctx} (h : E.le E') : ∀ (ds : List D) (us : List Value), RdT E ds us → RdT E' ds us
  | [], us, hr => by simp only [RdT] at hr ⊢; exact hr
  | d :: ds, us, hr => by
    simp only [RdT] at hr ⊢
    obtain ⟨u, r, e, hd, hr⟩ := hr
    exact ⟨u, r, e, Rd.mono h d u hd, RdT.mono h ds r hr⟩
end
mutual
theorem Rd.nameless {E E' : Ctx} (hS : ∀ k, E.S k → E'.S k) (hw : ∀ k, E.S k → E'.w.heap[k]? = E.w.heap[k]?) : ∀ (d : D) (u : Value), Nameless d → Rd E d u → Rd E' d u
  | .v x, u, _, hr => by simp only [Rd] at hr ⊢; exact hr
  | .ro n xs, u, hn, hr => by
    simp only [Rd] at hr ⊢
    obtain ⟨hn', A, c, h1, h2, h3, h4⟩ := hr
    refine ⟨hn', A, c, h1, h2, h3, fun hx => ?_⟩
    obtain ⟨ad, e, hs, ha⟩ := h4 hx
    exact ⟨ad, e, hS _ hs, RdAt.nameless hS hw xs ad 0 hn' hs ha⟩
  | .rp xs j, u, hn, hr => by
    simp only [Rd] at hr ⊢
    obtain ⟨hn', ad, e, hs, ha⟩ := hr
    exact ⟨hn', ad, e, hS _ hs, RdAt.nameless hS hw xs ad 0 hn' hs ha⟩
  | .sl .., u, hn, hr => by simp only [Nameless] at hn
  | .ptr .., u, hn, hr => by simp only [Nameless] at hn
  | .agg xs, u, hn, hr => by
    simp only [Nameless] at hn
    simp only [Rd] at hr ⊢
    obtain ⟨us, e, hl⟩ := hr
    exact ⟨us, e, RdL.nameless hS hw xs _ hn hl⟩
  | .tup xs, u, hn, hr => by
    simp only [Nameless] at hn
    simp only [Rd] at hr ⊢
    obtain ⟨us, e, hl⟩ := hr
    exact ⟨us, e, RdT.nameless hS hw xs _ hn hl⟩
  | .ifc t d, u, hn, hr => by
    simp only [Nameless] at hn
    simp only [Rd] at hr ⊢
    obtain ⟨x, e, hx⟩ := hr
    exact ⟨x, e, Rd.nameless hS hw d x hn hx⟩
  | .fn f k caps, u, hn, hr => by
    simp only [Nameless] at hn
    simp only [Rd] at hr ⊢
    obtain ⟨fs, us, e, hk, hl⟩ := hr
    exact ⟨fs, us, e, hk, RdT.nameless hS hw caps _ hn hl⟩
theorem RdAt.nameless {E E' : Ctx} (hS : ∀ k, E.S k → E'.S k) (hw : ∀ k, E.S k → E'.w.heap[k]? = E.w.heap[k]?) : ∀ (ds : List D) (ad : Addr) (j : Nat), NamelessL ds → E.S ad.block → RdAt E ds ad j → RdAt E' ds ad j
  | [], _, _, _, _, _ => by simp only [RdAt]
  | d :: ds, ad, j, hn, hs, hr => by
    simp only [NamelessL] at hn
    simp only [RdAt] at hr ⊢
    obtain ⟨⟨u, hc, ho, hd⟩, hr⟩ := hr
    refine ⟨⟨u, ?_, ho, Rd.nameless hS hw d u hn.1 hd⟩, RdAt.nameless hS hw ds ad (j + 1) hn.2 hs hr⟩
    rw [World.cell?_of_block (w := E.w) (hw _ (by rw [block_add]; exact hs))]
    exact hc
theorem RdL.nameless {E E' : Ctx} (hS : ∀ k, E.S k → E'.S k) (hw : ∀ k, E.S k → E'.w.heap[k]? = E.w.heap[k]?) : ∀ (ds : List D) (us : List Value), NamelessL ds → RdL E ds us → RdL E' ds us
  | [], us, _, hr => by simp only [RdL] at hr ⊢; exact hr
  | d :: ds, us, hn, hr => by
    simp only [NamelessL] at hn
    simp only [RdL] at hr ⊢
    obtain ⟨u, r, e, ho, hd, hr⟩ := hr
    exact ⟨u, r, e, ho, Rd.nameless hS hw d u hn.1 hd, RdL.nameless hS hw ds r hn.2 hr⟩
theorem RdT.nameless {E E' : Ctx} (hS : ∀ k, E.S k → E'.S k) (hw : ∀ k, E.S k → E'.w.heap[k]? = E.w.heap[k]?) : ∀ (ds : List D) (us : List Value), NamelessL ds → RdT E ds us → RdT E' ds us
  | [], us, _, hr => by simp only [RdT] at hr ⊢; exact hr
  | d :: ds, us, hn, hr => by
    simp only [NamelessL] at hn
    simp only [RdT] at hr ⊢
    obtain ⟨u, r, e, hd, hr⟩ := hr
    exact ⟨u, r, e, Rd.nameless hS hw d u hn.1 hd, RdT.nameless hS hw ds r hn.2 hr⟩
end
theorem RdL.length {E : Ctx} : ∀ (ds : List D) (us : List Value), RdL E ds us → us.length = ds.length
  | [], us, hr => by simp only [RdL] at hr; simp [hr]
  | d :: ds, us, hr => by
    simp only [RdL] at hr
    obtain ⟨u, r, e, _, hd, hr⟩ := hr
    subst e; simp [RdL.length ds r hr]
theorem RdL.one {E : Ctx} : ∀ (ds : List D) (us : List Value), RdL E ds us → ∀ u ∈ us, u.oneCell' = true
  | [], us, hr => by simp only [RdL] at hr; subst hr; simp
  | d :: ds, us, hr => by
    simp only [RdL] at hr
    obtain ⟨u, r, e, ho, hd, hr⟩ := hr
    subst e
    intro x hx
    rcases List.mem_cons.1 hx with h | h
    · subst h; exact ho
    · exact RdL.one ds r hr x h
theorem RdL.get {E : Ctx} : ∀ (ds : List D) (us : List Value), RdL E ds us → ∀ (i : Nat) (d : D), ds[i]? = some d → ∃ u, us[i]? = some u ∧ u.oneCell' = true ∧ Rd E d u
  | [], us, hr => by intro i d h; simp at h
  | d :: ds, us, hr => by
    simp only [RdL] at hr
    obtain ⟨u, r, e, ho, hd, hr⟩ := hr
    subst e
    intro i d' hi
    cases i with
    | zero => simp at hi; subst hi; exact ⟨u, by simp, ho, hd⟩
    | succ i => simpa using RdL.get ds r hr i d' (by simpa using hi)
theorem RdL.append {E : Ctx} : ∀ (ds : List D) (us : List Value) (ds' : List D) (us' : List Value), RdL E ds us → RdL E ds' us' → RdL E (ds ++ ds') (us ++ us')
  | [], us, ds', us', hr, hr' => by simp only [RdL] at hr; subst hr; simpa using hr'
  | d :: ds, us, ds', us', hr, hr' => by
    simp only [RdL] at hr
    obtain ⟨u, r, e, ho, hd, hr⟩ := hr
    subst e
    simp only [List.cons_append, RdL]
    exact ⟨u, r ++ us', rfl, ho, hd, RdL.append ds r ds' us' hr hr'⟩
theorem RdL.take {E : Ctx} : ∀ (n : Nat) (ds : List D) (us : List Value), RdL E ds us → RdL E (ds.take n) (us.take n)
  | 0, ds, us, hr => by simp [RdL]
  | n + 1, [], us, hr => by simp only [RdL] at hr; subst hr; simp [RdL]
  | n + 1, d :: ds, us, hr => by
    simp only [RdL] at hr
    obtain ⟨u, r, e, ho, hd, hr⟩ := hr
    subst e
    simp only [List.take_succ_cons, RdL]
    exact ⟨u, r.take n, rfl, ho, hd, RdL.take n ds r hr⟩
theorem RdL.drop {E : Ctx} : ∀ (n : Nat) (ds : List D) (us : List Value), RdL E ds us → RdL E (ds.drop n) (us.drop n)
  | 0, ds, us, hr => by simpa using hr
  | n + 1, [], us, hr => by simp only [RdL] at hr; subst hr; simp [RdL]
  | n + 1, d :: ds, us, hr => by
    simp only [RdL] at hr
    obtain ⟨u, r, e, ho, hd, hr⟩ := hr
    subst e
    simpa using RdL.drop n ds r hr
theorem RdL.set {E : Ctx} : ∀ (ds : List D) (us : List Value), RdL E ds us → ∀ (i : Nat) (d : D) (u : Value), u.oneCell' = true → Rd E d u → RdL E (ds.set i d) (us.set i u)
  | [], us, hr => by intro i d u _ _; simp only [RdL] at hr; subst hr; simp [RdL]
  | d :: ds, us, hr => by
    simp only [RdL] at hr
    obtain ⟨u, r, e, ho, hd, hr⟩ := hr
    subst e
    intro i d' u' ho' hd'
    cases i with
    | zero => simp only [List.set_cons_zero, RdL]; exact ⟨u', r, rfl, ho', hd', hr⟩
    | succ i => simp only [List.set_cons_succ, RdL]; exact ⟨u, r.set i u', rfl, ho, hd, RdL.set ds r hr i d' u' ho' hd'⟩
theorem RdL.replicate {E : Ctx} (d : D) (u : Value) (ho : u.oneCell' = true) (hd : Rd E d u) : ∀ n, RdL E (List.replicate n d) (List.replicate n u)
  | 0 => by simp [RdL]
  | n + 1 => by simp only [List.replicate_succ, RdL]; exact ⟨u, _, rfl, ho, hd, RdL.replicate d u ho hd n⟩
theorem RdAt.get {E : Ctx} : ∀ (ds : List D) (ad : Addr) (j : Nat), RdAt E ds ad j → ∀ (i : Nat) (d : D), ds[i]? = some d → ∃ u, E.w.cell? (ad.add (j + i)) = some u ∧ u.oneCell' = true ∧ Rd E d u
  | [], _, _, _ => by intro i d h; simp at h
  | d :: ds, ad, j, hr => by
    simp only [RdAt] at hr
    obtain ⟨⟨u, hc, ho, hd⟩, hr⟩ := hr
    intro i d' hi
    cases i with
    | zero => simp at hi; subst hi; exact ⟨u, hc, ho, hd⟩
    | succ i =>
      have := RdAt.get ds ad (j + 1) hr i d' (by simpa using hi)
      rw [show j + 1 + i = j + (i + 1) by omega] at this
      exact this
theorem add_add (a : Addr) (i j : Nat) : (a.add i).add j = a.add (i + j) := by
  unfold Addr.add
  by_cases hi : i = 0 <;> by_cases hj : j = 0 <;> simp [hi, hj, Nat.add_assoc]
theorem RdAt.mk {E : Ctx} : ∀ (ds : List D) (ad : Addr) (j : Nat), (∀ (i : Nat) (d : D), ds[i]? = some d → ∃ u, E.w.cell? (ad.add (j + i)) = some u ∧ u.oneCell' = true ∧ Rd E d u) → RdAt E ds ad j
  | [], _, _, _ => by simp [RdAt]
  | d :: ds, ad, j, h => by
    simp only [RdAt]
    refine ⟨h 0 d (by simp), RdAt.mk ds ad (j + 1) fun i d' hi => ?_⟩
    have := h (i + 1) d' (by simpa using hi)
    rw [show j + 1 + i = j + (i + 1) by omega]
    exact this
theorem RdAt.drop {E : Ctx} {ds : List D} {ad : Addr} (h : RdAt E ds ad 0) (k : Nat) : RdAt E (ds.drop k) (ad.add k) 0 :=
  RdAt.mk _ _ _ fun i d hi => by
    obtain ⟨u, hc, r⟩ := RdAt.get ds ad 0 h (k + i) d (by rw [← hi, List.getElem?_drop])
    exact ⟨u, by rw [add_add]; simpa using hc, r⟩
theorem RdAt.take {E : Ctx} {ds : List D} {ad : Addr} (h : RdAt E ds ad 0) (k : Nat) : RdAt E (ds.take k) ad 0 :=
  RdAt.mk _ _ _ fun i d hi => by
    refine RdAt.get ds ad 0 h i d ?_
    rw [List.getElem?_take] at hi
    split at hi
    · exact hi
    · cases hi
theorem RdAt.list {E : Ctx} : ∀ (ds : List D) (ad : Addr) (j : Nat), RdAt E ds ad j → ∃ us : List Value, RdL E ds us ∧ ∀ (i : Nat) (u : Value), us[i]? = some u → E.w.cell? (ad.add (j + i)) = some u
  | [], _, _, _ => ⟨[], by simp [RdL], by simp⟩
  | d :: ds, ad, j, hr => by
    simp only [RdAt] at hr
    obtain ⟨⟨u, hc, ho, hd⟩, hr⟩ := hr
    obtain ⟨us, h1, h2⟩ := RdAt.list ds ad (j + 1) hr
    refine ⟨u :: us, by simp only [RdL]; exact ⟨u, us, rfl, ho, hd, h1⟩, fun i x hx => ?_⟩
    cases i with
    | zero => simp at hx; subst hx; exact hc
    | succ i =>
      have := h2 i x (by simpa using hx)
      rw [show j + 1 + i = j + (i + 1) by omega] at this
      exact this
def glob : List (Nat × List Value) := [(0, [.int .u8 0, .int .u8 0, .int .u8 0, .int .u8 0, .int .u8 0, .int .u8 0, .int .u8 0, .int .u8 0, .int .u8 0, .int .u8 1, .int .u8 1, .int .u8 1, .int .u8 1, .int .u8 1, .int .u8 0, .int .u8 0, .int .u8 0, .int .u8 0, .int .u8 0, .int .u8 0, .int .u8 0, .int .u8 0, .int .u8 0, .int .u8 0, .int .u8 0, .int .u8 0, .int .u8 0, .int .u8 0, .int .u8 0, .int .u8 0, .int .u8 0, .int .u8 0, .int .u8 1, .int .u8 0, .int .u8 0, .int .u8 0, .int .u8 0, .int .u8 0, .int .u8 0, .int .u8 0, .int .u8 0, .int .u8 0, .int .u8 0, .int .u8 0, .int .u8 0, .int .u8 0, .int .u8 0, .int .u8 0, .int .u8 0, .int .u8 0, .int .u8 0, .int .u8 0, .int .u8 0, .int .u8 0, .int .u8 0, .int .u8 0, .int .u8 0, .int .u8 0, .int .u8 0, .int .u8 0, .int .u8 0, .int .u8 0, .int .u8 0, .int .u8 0, .int .u8 0, .int .u8 0, .int .u8 0, .int .u8 0, .int .u8 0, .int .u8 0, .int .u8 0, .int .u8 0, .int .u8 0, .int .u8 0, .int .u8 0, .int .u8 0, .int .u8 0, .int .u8 0, .int .u8 0, .int .u8 0, .int .u8 0, .int .u8 0, .int .u8 0, .int .u8 0, .int .u8 0, .int .u8 0, .int .u8 0, .int .u8 0, .int .u8 0, .int .u8 0, .int .u8 0, .int .u8 0, .int .u8 0, .int .u8 0, .int .u8 0, .int .u8 0, .int .u8 0, .int .u8 0, .int .u8 0, .int .u8 0, .int .u8 0, .int .u8 0, .int .u8 0, .int .u8 0, .int .u8 0, .int .u8 0, .int .u8 0, .int .u8 0, .int .u8 0, .int .u8 0, .int .u8 0, .int .u8 0, .int .u8 0, .int .u8 0, .int .u8 0, .int .u8 0, .int .u8 0, .int .u8 0, .int .u8 0, .int .u8 0, .int .u8 0, .int .u8 0, .int .u8 0, .int .u8 0, .int .u8 0, .int .u8 0, .int .u8 0, .int .u8 0, .int .u8 0, .int .u8 0, .int .u8 0, .int .u8 0, .int .u8 0, .int .u8 0, .int .u8 0, .int .u8 0, .int .u8 0, .int .u8 0, .int .u8 0, .int .u8 0, .int .u8 0, .int .u8 0, .int .u8 0, .int .u8 0, .int .u8 0, .int .u8 0, .int .u8 0, .int .u8 0, .int .u8 0, .int .u8 0, .int .u8 0, .int .u8 0, .int .u8 0, .int .u8 0, .int .u8 0, .int .u8 0, .int .u8 0, .int .u8 0, .int .u8 0, .int .u8 0, .int .u8 0, .int .u8 0, .int .u8 0, .int .u8 0, .int .u8 0, .int .u8 0, .int .u8 0, .int .u8 0, .int .u8 0, .int .u8 0, .int .u8 0, .int .u8 0, .int .u8 0, .int .u8 0, .int .u8 0, .int .u8 0, .int .u8 0, .int .u8 0, .int .u8 0, .int .u8 0, .int .u8 0, .int .u8 0, .int .u8 0, .int .u8 0, .int .u8 0, .int .u8 0, .int .u8 0, .int .u8 0, .int .u8 0, .int .u8 0, .int .u8 0, .int .u8 0, .int .u8 0, .int .u8 0, .int .u8 0, .int .u8 0, .int .u8 0, .int .u8 0, .int .u8 0, .int .u8 0, .int .u8 0, .int .u8 0, .int .u8 0, .int .u8 0, .int .u8 0, .int .u8 0, .int .u8 0, .int .u8 0, .int .u8 0, .int .u8 0, .int .u8 0, .int .u8 0, .int .u8 0, .int .u8 0, .int .u8 0, .int .u8 0, .int .u8 0, .int .u8 0, .int .u8 0, .int .u8 0, .int .u8 0, .int .u8 0, .int .u8 0, .int .u8 0, .int .u8 0, .int .u8 0, .int .u8 0, .int .u8 0, .int .u8 0, .int .u8 0, .int .u8 0, .int .u8 0, .int .u8 0, .int .u8 0, .int .u8 0, .int .u8 0, .int .u8 0, .int .u8 0, .int .u8 0, .int .u8 0, .int .u8 0, .int .u8 0, .int .u8 0, .int .u8 0, .int .u8 0, .int .u8 0, .int .u8 0, .int .u8 0, .int .u8 0, .int .u8 0, .int .u8 0, .int .u8 0, .int .u8 0, .int .u8 0, .int .u8 0, .int .u8 0]), (2, [.int .u64 1, .int .u64 10, .int .u64 100, .int .u64 1000, .int .u64 10000, .int .u64 100000, .int .u64 1000000, .int .u64 10000000, .int .u64 100000000, .int .u64 1000000000, .int .u64 10000000000, .int .u64 100000000000, .int .u64 1000000000000, .int .u64 10000000000000, .int .u64 100000000000000, .int .u64 1000000000000000, .int .u64 10000000000000000, .int .u64 100000000000000000, .int .u64 1000000000000000000, .int .u64 10000000000000000000]), (4, [.int .u8 0, .int .u8 1, .int .u8 28, .int .u8 2, .int .u8 29, .int .u8 14, .int .u8 24, .int .u8 3, .int .u8 30, .int .u8 22, .int .u8 20, .int .u8 15, .int .u8 25, .int .u8 17, .int .u8 4, .int .u8 8, .int .u8 31, .int .u8 27, .int .u8 13, .int .u8 23, .int .u8 21, .int .u8 19, .int .u8 16, .int .u8 7, .int .u8 26, .int .u8 12, .int .u8 18, .int .u8 6, .int .u8 11, .int .u8 5, .int .u8 10, .int .u8 9]), (5, [.int .u8 0, .int .u8 1, .int .u8 56, .int .u8 2, .int .u8 57, .int .u8 49, .int .u8 28, .int .u8 3, .int .u8 61, .int .u8 58, .int .u8 42, .int .u8 50, .int .u8 38, .int .u8 29, .int .u8 17, .int .u8 4, .int .u8 62, .int .u8 47, .int .u8 59, .int .u8 36, .int .u8 45, .int .u8 43, .int .u8 51, .int .u8 22, .int .u8 53, .int .u8 39, .int .u8 33, .int .u8 30, .int .u8 24, .int .u8 18, .int .u8 12, .int .u8 5, .int .u8 63, .int .u8 55, .int .u8 48, .int .u8 27, .int .u8 60, .int .u8 41, .int .u8 37, .int .u8 16, .int .u8 46, .int .u8 35, .int .u8 44, .int .u8 21, .int .u8 52, .int .u8 32, .int .u8 23, .int .u8 11, .int .u8 54, .int .u8 26, .int .u8 40, .int .u8 15, .int .u8 34, .int .u8 20, .int .u8 31, .int .u8 10, .int .u8 25, .int .u8 14, .int .u8 19, .int .u8 9, .int .u8 13, .int .u8 8, .int .u8 7, .int .u8 6])]
def gcells (xs : List Value) : List D := xs.map .v
def GOK (S : Nat → Prop) (w : World) : Prop := ∀ g xs, glob.lookup g = some xs → S g ∧ RdAt ⟨fun _ => (0, 0), S, w, []⟩ (gcells xs) ⟨g, 0, none⟩ 0
theorem gcells_nameless : ∀ xs : List Value, NamelessL (gcells xs)
  | [] => by simp [gcells, NamelessL]
  | x :: xs => by simpa [gcells, NamelessL, Nameless] using gcells_nameless xs
theorem GOK.mono {S S' : Nat → Prop} {w w' : World} (h : GOK S w) (h1 : ∀ k, S k → S' k) (h2 : ∀ k, S k → w'.heap[k]? = w.heap[k]?) : GOK S' w' := fun g xs hg =>
  ⟨h1 _ (h g xs hg).1, RdAt.nameless (E := ⟨fun _ => (0, 0), S, w, []⟩) (E' := ⟨fun _ => (0, 0), S', w', []⟩) h1 h2 _ _ _ (gcells_nameless xs) (h g xs hg).1 (h g xs hg).2⟩
theorem add_zero' (a : Addr) : a.add 0 = a := by unfold Addr.add; simp
theorem GOK.rd {E : Ctx} (h : GOK E.S E.w) {g : Nat} {xs : List Value} (hg : glob.lookup g = some xs) : Rd E (.rp (gcells xs) 0) (.pointer (some ⟨g, 0, none⟩)) := by
  simp only [Rd]
  refine ⟨gcells_nameless xs, ⟨g, 0, none⟩, by rw [add_zero'], (h g xs hg).1, ?_⟩
  exact RdAt.nameless (E := ⟨fun _ => (0, 0), E.S, E.w, []⟩) (E' := E) (fun _ h => h) (fun _ _ => rfl) _ _ _ (gcells_nameless xs) (h g xs hg).1 (h g xs hg).2
abbrev ctx (ρ : Nat → Nat × Nat) (S : Nat → Prop) (w : World) (H : Heap) : Ctx := ⟨ρ, S, w, H⟩
def mapHdr (ka va : Bool) (zk : List Value) (vn : Nat) : List Value := .map none :: .bool ka :: .bool va :: .int .i64 (zk.length : Nat) :: .int .i64 (vn : Nat) :: zk
def packV (agg : Bool) (us : List Value) : Value := bif agg then .agg us.toArray else us.headD undef
def kindB : Value → Value → Bool
  | .int k _, .int l _ => k == l
  | .string _, .string _ => true
  | .bool _, .bool _ => true
  | _, _ => false
def kindsB : List Value → List Value → Bool
  | [], [] => true
  | z :: zs, u :: us => kindB z u && kindsB zs us
  | _, _ => false
structure MapRow (o : Option Obj) (blk : Blk) (cur : Array Value) (ka va : Bool) (zk : List Value) (vn : Nat) (ents : List (List Value × List Value)) : Prop where
  ty : blk.ty = itTy
  full : blk.full = true
  cs : ∃ r, blk.cs = (mapHdr ka va zk vn).map D.v ++ r
  cur : cur.toList = mapHdr ka va zk vn ++ ents.flatMap fun p => p.1 ++ p.2
  ok : ∀ p ∈ ents, kindsB zk p.1 = true ∧ p.2.length = vn
  nd : ents.Pairwise fun p q => p.1 ≠ q.1
  obj : ∃ es clock, o = some (.map es clock) ∧ (es.toList.map fun e => (e.key, e.val)).Perm (ents.map fun p => (packV ka p.1, packV va p.2)) ∧ (∀ e ∈ es.toList, e.born < clock) ∧ es.toList.Pairwise fun e f => e.born ≠ f.born
def Row (o : Option Obj) (blk : Blk) (cur : Array Value) : Prop := (blk.ty ≠ itTy ∧ o = some (.cells cur blk.ty (0, 0))) ∨
  (∃ (s : ByteArray) (n : Int), blk = ⟨itTy, [.v (.string s), .v (.int .i64 n)], true⟩ ∧ cur = #[.string s, .int .i64 n] ∧ 0 ≤ n ∧ o = some (.stringIter s n.toNat)) ∨
  ∃ ka va zk vn ents, MapRow o blk cur ka va zk vn ents
theorem Row.of {o o' : Option Obj} {blk : Blk} {cur : Array Value} (e : o' = o) (h : Row o blk cur) : Row o' blk cur := e ▸ h
theorem Row.cells {o : Option Obj} {blk : Blk} {cur : Array Value} (h : Row o blk cur) (ht : blk.ty ≠ itTy) : o = some (.cells cur blk.ty (0, 0)) := by
  rcases h with h | ⟨s, n, rfl, _⟩ | ⟨_, _, _, _, _, h⟩
  · exact h.2
  · exact absurd rfl ht
  · exact absurd h.ty ht
theorem Row.iter {o : Option Obj} {blk : Blk} {cur : Array Value} (h : Row o blk cur) (ht : blk.ty = itTy) (hm : ∀ r, blk.cs ≠ .v (.map none) :: r) : ∃ (s : ByteArray) (n : Int), blk = ⟨itTy, [.v (.string s), .v (.int .i64 n)], true⟩ ∧ cur = #[.string s, .int .i64 n] ∧ 0 ≤ n ∧ o = some (.stringIter s n.toNat) := by
  rcases h with h | h | ⟨_, _, _, _, _, h⟩
  · exact absurd ht h.1
  · exact h
  · obtain ⟨r, e⟩ := h.cs
    exact absurd e (hm _)
theorem Row.map {o : Option Obj} {blk : Blk} {cur : Array Value} {r : List D} (h : Row o blk cur) (ht : blk.ty = itTy) (hm : blk.cs = .v (.map none) :: r) : ∃ ka va zk vn ents, MapRow o blk cur ka va zk vn ents := by
  rcases h with h | ⟨s, n, rfl, _⟩ | h
  · exact absurd ht h.1
  · cases hm
  · exact h
theorem Row.ex {o : Option Obj} {blk : Blk} {cur : Array Value} (h : Row o blk cur) : ∃ x, o = some x := by
  rcases h with h | ⟨s, n, _, _, _, h⟩ | ⟨_, _, _, _, _, h⟩
  · exact ⟨_, h.2⟩
  · exact ⟨_, h⟩
  · obtain ⟨es, c, h, _⟩ := h.obj
    exact ⟨_, h⟩
theorem MapRow.re {o : Option Obj} {blk blk' : Blk} {cur : Array Value} {ka va : Bool} {zk : List Value} {vn : Nat} {ents : List (List Value × List Value)} (h : MapRow o blk cur ka va zk vn ents) (ht : blk'.ty = blk.ty) (hf : blk'.full = blk.full)
    (hc : ∀ r, blk.cs = (mapHdr ka va zk vn).map D.v ++ r → ∃ r', blk'.cs = (mapHdr ka va zk vn).map D.v ++ r') : MapRow o blk' cur ka va zk vn ents :=
  ⟨ht.trans h.ty, hf.trans h.full, by obtain ⟨r, e⟩ := h.cs; exact hc r e, h.cur, h.ok, h.nd, h.obj⟩
structure BlkIs (E : Ctx) (ρb : Nat × Nat) (blk : Blk) (cur : Array Value) : Prop where
  heap : Row E.w.heap[ρb.1]? blk cur
  size : blk.ty ≠ itTy → cur.size = ρb.2
  pre : RdL E blk.cs (cur.toList.take blk.cs.length)
  full : blk.full = true → blk.cs.length = cur.size
structure St (ρ : Nat → Nat × Nat) (S : Nat → Prop) (w : World) (H : Heap) : Prop where
  sub : ∀ k, S k → Fix (ctx ρ S w H) k
  none : ∀ b blk, H[b]? = some (some blk) → (ρ b).2 = 0 → blk.cs = []
  blk : ∀ b blk, H[b]? = some (some blk) → 0 < (ρ b).2 → ∃ cur, BlkIs (ctx ρ S w H) (ρ b) blk cur
  inj : ∀ b b' blk blk', H[b]? = some (some blk) → H[b']? = some (some blk') → 0 < (ρ b).2 → 0 < (ρ b').2 → (ρ b).1 = (ρ b').1 → b = b'
  glob : GOK S w
theorem St.nil (ρ : Nat → Nat × Nat) {S : Nat → Prop} {w : World} (h : ∀ k, S k → k < w.heap.size) (hG : GOK S w) : St ρ S w [] := ⟨fun k hk => ⟨h k hk, fun ⟨b, blk, hb, _⟩ => by simp at hb⟩, fun b blk h => by simp at h, fun b blk h => by simp at h, fun b b' blk blk' h => by simp at h, hG⟩
theorem BlkIs.lt {E : Ctx} {ρb : Nat × Nat} {blk : Blk} {cur : Array Value} (h : BlkIs E ρb blk cur) : ρb.1 < E.w.heap.size := by
  obtain ⟨x, hx⟩ := h.heap.ex
  exact (Array.getElem?_eq_some_iff.1 hx).1
theorem St.lt {ρ : Nat → Nat × Nat} {S : Nat → Prop} {w : World} {H : Heap} (h : St ρ S w H) {k : Nat} (hk : Live ρ H k) : k < w.heap.size := by
  obtain ⟨b, blk, hb, hz, rfl⟩ := hk
  obtain ⟨cur, hc⟩ := h.blk b blk hb hz
  exact hc.lt
structure Grow (w w' : World) : Prop where
  size : w.heap.size ≤ w'.heap.size
  heap : ∀ k, k < w.heap.size → w'.heap[k]? = w.heap[k]?
  os : w'.os = w.os
  tape : w'.tape = w.tape
  output : w'.output = w.output
theorem Grow.refl (w : World) : Grow w w := ⟨Nat.le_refl _, fun _ _ => rfl, rfl, rfl, rfl⟩
theorem Grow.drew (w : World) : Grow w w.drew := ⟨Nat.le_refl _, fun _ _ => rfl, rfl, rfl, rfl⟩
theorem Grow.alloc (w : World) (o : Obj) : Grow w (w.alloc o) := ⟨by simp, fun k h => RowKit.Below.heap_alloc w o k h, rfl, rfl, rfl⟩
theorem Grow.trans {a b c : World} (h : Grow a b) (k : Grow b c) : Grow a c :=
  ⟨Nat.le_trans h.size k.size, fun i hi => (k.heap i (Nat.lt_of_lt_of_le hi h.size)).trans (h.heap i hi), k.os.trans h.os, k.tape.trans h.tape, k.output.trans h.output⟩
section
variable {ρ : Nat → Nat × Nat} {S : Nat → Prop} {w w' : World} {H : Heap}
theorem Grow.le (g : Grow w w') (hsub : ∀ k, S k → k < w.heap.size) : (ctx ρ S w H).le (ctx ρ S w' H) :=
  ⟨Nat.le_refl _, fun _ _ => rfl, fun _ h => h, fun k h => g.heap k (hsub k h), fun _ h => .inl h, fun k h => ⟨Nat.lt_of_lt_of_le h.1 g.size, h.2⟩, fun k h => g.heap k h.1, g.size, g.os, g.tape, g.output⟩
theorem St.grow (h : St ρ S w H) (g : Grow w w') : St ρ S w' H :=
  ⟨fun k hk => ⟨Nat.lt_of_lt_of_le (h.sub k hk).1 g.size, (h.sub k hk).2⟩, h.none, fun b blk hb hz => by
    obtain ⟨cur, hc⟩ := h.blk b blk hb hz
    exact ⟨cur, hc.heap.of (g.heap _ hc.lt), hc.size, hc.pre.mono (g.le fun k hk => (h.sub k hk).1) _ _, hc.full⟩, h.inj, h.glob.mono (fun _ h => h) fun k hk => g.heap k (h.sub k hk).1⟩
def Drops (H H' : Heap) : Prop := H'.length = H.length ∧ ∀ (b : Nat) (blk : Blk), H'[b]? = some (some blk) → H[b]? = some (some blk)
theorem Drops.refl (H : Heap) : Drops H H := ⟨rfl, fun _ _ h => h⟩
theorem Drops.set (H : Heap) (b : Nat) : Drops H (H.set b none) :=
  ⟨by simp, fun b' blk h => by
    by_cases hb : b = b'
    · subst hb
      rw [List.getElem?_set] at h
      split at h <;> simp_all
    · rwa [List.getElem?_set_ne hb] at h⟩
theorem Drops.trans {H H' H'' : Heap} (h : Drops H H') (k : Drops H' H'') : Drops H H'' := ⟨k.1.trans h.1, fun b blk hb => h.2 b blk (k.2 b blk hb)⟩
theorem Drops.le {H' : Heap} (d : Drops H H') : (ctx ρ S w H).le (ctx ρ S w H') :=
  ⟨Nat.le_of_eq d.1.symm, fun _ _ => rfl, fun _ h => h, fun _ _ => rfl, fun _ h => .inl h, fun k h => ⟨h.1, fun ⟨b, blk, hb, e⟩ => h.2 ⟨b, blk, d.2 b blk hb, e⟩⟩, fun _ _ => rfl, Nat.le_refl _, rfl, rfl, rfl⟩
theorem St.drops {H' : Heap} (h : St ρ S w H) (d : Drops H H') : St ρ S w H' :=
  ⟨fun k hk => d.le.fix k (h.sub k hk), fun b blk hb => h.none b blk (d.2 b blk hb), fun b blk hb hz => by
    obtain ⟨cur, hc⟩ := h.blk b blk (d.2 b blk hb) hz
    exact ⟨cur, hc.heap, hc.size, hc.pre.mono d.le _ _, hc.full⟩,
   fun b b' blk blk' hb hb' hz hz' e => h.inj b b' blk blk' (d.2 _ _ hb) (d.2 _ _ hb') hz hz' e, h.glob⟩
def ext (ρ : Nat → Nat × Nat) (n : Nat) (p : Nat × Nat) : Nat → Nat × Nat := fun b => if b = n then p else ρ b
theorem ext_same (ρ : Nat → Nat × Nat) (n : Nat) (p : Nat × Nat) : ext ρ n p n = p := by simp [ext]
theorem ext_lt (ρ : Nat → Nat × Nat) {n : Nat} (p : Nat × Nat) {b : Nat} (h : b < n) : ext ρ n p b = ρ b := by simp [ext]; omega
theorem getElem?_snoc_cases {α : Type} {l : List α} {x y : α} {b : Nat} (h : (l ++ [x])[b]? = some y) : (b < l.length ∧ l[b]? = some y) ∨ (b = l.length ∧ x = y) := by
  rcases Nat.lt_trichotomy b l.length with hb | hb | hb
  · left; rw [List.getElem?_append_left hb] at h; exact ⟨hb, h⟩
  · right; subst hb; simp at h; exact ⟨rfl, h⟩
  · rw [List.getElem?_append_right (by omega)] at h
    have : b - l.length ≠ 0 := by omega
    obtain ⟨k, hk⟩ := Nat.exists_eq_succ_of_ne_zero this
    rw [hk] at h; simp at h
theorem le_new {blk : Blk} (hsub : ∀ k, S k → k < w.heap.size) (g : Grow w w') {id sz : Nat} (hid : w.heap.size ≤ id) : (ctx ρ S w H).le (ctx (ext ρ H.length (id, sz)) S w' (H ++ [some blk])) :=
  ⟨by simp, fun b hb => ext_lt ρ _ hb, fun _ h => h, fun k h => g.heap k (hsub k h), fun _ h => .inl h, fun k hk => ⟨Nat.lt_of_lt_of_le hk.1 g.size, fun ⟨b, bl, hb, hz, e⟩ => by
      dsimp only at hb hz e
      rcases getElem?_snoc_cases hb with ⟨hlt, hb⟩ | ⟨rfl, hx⟩
      · rw [ext_lt ρ _ hlt] at e hz; exact hk.2 ⟨b, bl, hb, hz, e⟩
      · rw [ext_same] at e; have hk1 : k < w.heap.size := hk.1; simp at e; omega⟩, fun k hk => g.heap k hk.1, g.size, g.os, g.tape, g.output⟩
theorem St.newR {blk : Blk} (hS : St ρ S w H) (g : Grow w w') {id : Nat} {cur : Array Value} (hid : w.heap.size ≤ id) (hh : Row w'.heap[id]? blk cur)
    (hp : RdL (ctx ρ S w H) blk.cs (cur.toList.take blk.cs.length)) (hf : blk.full = true → blk.cs.length = cur.size) : St (ext ρ H.length (id, cur.size)) S w' (H ++ [some blk]) := by
  have hle : (ctx ρ S w H).le (ctx (ext ρ H.length (id, cur.size)) S w' (H ++ [some blk])) := le_new (fun k hk => (hS.sub k hk).1) g hid
  refine ⟨fun k hk => hle.fix k (hS.sub k hk), fun b bl hb hz => ?_, fun b bl hb hz => ?_, fun b b' bl bl' hb hb' hz hz' e => ?_, hS.glob.mono (fun _ h => h) fun k hk => g.heap k (hS.sub k hk).1⟩
  · rcases getElem?_snoc_cases hb with ⟨hlt, hb⟩ | ⟨rfl, hx⟩
    · rw [ext_lt ρ _ hlt] at hz; exact hS.none b bl hb hz
    · injection hx with hx; subst hx
      rw [ext_same] at hz
      have := hp.length
      simp only at hz
      have : cur.toList = [] := List.eq_nil_of_length_eq_zero (by simpa using hz)
      rw [this] at hp
      exact List.eq_nil_of_length_eq_zero (by have := hp.length; simpa using this.symm)
  · rcases getElem?_snoc_cases hb with ⟨hlt, hb⟩ | ⟨rfl, hx⟩
    · rw [ext_lt ρ _ hlt] at hz ⊢
      obtain ⟨c, hc⟩ := hS.blk b bl hb hz
      exact ⟨c, hc.heap.of (g.heap _ hc.lt), hc.size, hc.pre.mono hle _ _, hc.full⟩
    · injection hx with hx; subst hx
      rw [ext_same]
      exact ⟨cur, hh, fun _ => rfl, hp.mono hle _ _, hf⟩
  · rcases getElem?_snoc_cases hb with ⟨hlt, hb⟩ | ⟨rfl, hx⟩ <;> rcases getElem?_snoc_cases hb' with ⟨hlt', hb'⟩ | ⟨rfl, hx'⟩
    · rw [ext_lt ρ _ hlt] at e hz; rw [ext_lt ρ _ hlt'] at e hz'; exact hS.inj b b' bl bl' hb hb' hz hz' e
    · rw [ext_lt ρ _ hlt] at e hz; rw [ext_same] at e
      obtain ⟨c, hc⟩ := hS.blk b bl hb hz
      have := hc.lt; simp at this e; omega
    · rw [ext_lt ρ _ hlt'] at e hz'; rw [ext_same] at e
      obtain ⟨c, hc⟩ := hS.blk b' bl' hb' hz'
      have := hc.lt; simp at this e; omega
    · rfl
theorem St.new {blk : Blk} (hS : St ρ S w H) (g : Grow w w') {id : Nat} {cur : Array Value} (hid : w.heap.size ≤ id) (hty : blk.ty ≠ itTy) (hh : w'.heap[id]? = some (.cells cur blk.ty (0, 0)))
    (hp : RdL (ctx ρ S w H) blk.cs (cur.toList.take blk.cs.length)) (hf : blk.full = true → blk.cs.length = cur.size) : St (ext ρ H.length (id, cur.size)) S w' (H ++ [some blk]) :=
  hS.newR g hid (.inl ⟨hty, hh⟩) hp hf
theorem St.empty {ty : TypeId} {full : Bool} (hS : St ρ S w H) (g : Grow w w') : St (ext ρ H.length (0, 0)) S w' (H ++ [some ⟨ty, [], full⟩]) ∧ (ctx ρ S w H).le (ctx (ext ρ H.length (0, 0)) S w' (H ++ [some ⟨ty, [], full⟩])) := by
  have hle : (ctx ρ S w H).le (ctx (ext ρ H.length (0, 0)) S w' (H ++ [some ⟨ty, [], full⟩])) :=
    ⟨by simp, fun b hb => ext_lt ρ _ hb, fun _ h => h, fun k h => g.heap k (hS.sub k h).1, fun _ h => .inl h, fun k hk => ⟨Nat.lt_of_lt_of_le hk.1 g.size, fun ⟨b, bl, hb, hz, e⟩ => by
      dsimp only at hb hz e
      rcases getElem?_snoc_cases hb with ⟨hlt, hb⟩ | ⟨rfl, hx⟩
      · rw [ext_lt ρ _ hlt] at e hz; exact hk.2 ⟨b, bl, hb, hz, e⟩
      · rw [ext_same] at hz; simp at hz⟩, fun k hk => g.heap k hk.1, g.size, g.os, g.tape, g.output⟩
  refine ⟨⟨fun k hk => hle.fix k (hS.sub k hk), fun b bl hb hz => ?_, fun b bl hb hz => ?_, fun b b' bl bl' hb hb' hz hz' e => ?_, hS.glob.mono (fun _ h => h) fun k hk => g.heap k (hS.sub k hk).1⟩, hle⟩
  · rcases getElem?_snoc_cases hb with ⟨hlt, hb⟩ | ⟨rfl, hx⟩
    · rw [ext_lt ρ _ hlt] at hz; exact hS.none b bl hb hz
    · injection hx with hx; subst hx; rfl
  · rcases getElem?_snoc_cases hb with ⟨hlt, hb⟩ | ⟨rfl, hx⟩
    · rw [ext_lt ρ _ hlt] at hz ⊢
      obtain ⟨c, hc⟩ := hS.blk b bl hb hz
      exact ⟨c, hc.heap.of (g.heap _ hc.lt), hc.size, hc.pre.mono hle _ _, hc.full⟩
    · rw [ext_same] at hz; simp at hz
  · rcases getElem?_snoc_cases hb with ⟨hlt, hb⟩ | ⟨rfl, hx⟩ <;> rcases getElem?_snoc_cases hb' with ⟨hlt', hb'⟩ | ⟨rfl, hx'⟩
    · rw [ext_lt ρ _ hlt] at e hz; rw [ext_lt ρ _ hlt'] at e hz'; exact hS.inj b b' bl bl' hb hb' hz hz' e
    · rw [ext_same] at hz'; simp at hz'
    · rw [ext_same] at hz; simp at hz
    · rfl
theorem le_write {b : Nat} {blk blk' : Blk} (hsub : ∀ k, S k → Fix (ctx ρ S w H) k) (hb : H[b]? = some (some blk)) (hz : 0 < (ρ b).2) (hsize : w'.heap.size = w.heap.size) (hheap : ∀ k, k ≠ (ρ b).1 → w'.heap[k]? = w.heap[k]?)
    (hos : w'.os = w.os) (htape : w'.tape = w.tape) (hout : w'.output = w.output) : (ctx ρ S w H).le (ctx ρ S w' (H.set b (some blk'))) :=
  ⟨by simp, fun _ _ => rfl, fun _ h => h, fun k h => hheap k (fun e => (hsub k h).2 ⟨b, blk, hb, hz, e.symm⟩), fun _ h => .inl h, fun k hk => ⟨by rw [hsize]; exact hk.1, fun ⟨c, bl, hc, hzc, e⟩ => by
      dsimp only at hc hzc e
      by_cases hbc : b = c
      · subst hbc; exact hk.2 ⟨b, blk, hb, hz, e⟩
      · rw [List.getElem?_set_ne hbc] at hc; exact hk.2 ⟨c, bl, hc, hzc, e⟩⟩,
    fun k hk => hheap k (fun e => hk.2 ⟨b, blk, hb, hz, e.symm⟩), by simp [hsize], hos, htape, hout⟩
theorem St.writeR {b : Nat} {blk blk' : Blk} {cur : Array Value} (hS : St ρ S w H) (hb : H[b]? = some (some blk)) (hz : 0 < (ρ b).2) (hsize : w'.heap.size = w.heap.size) (hheap : ∀ k, k ≠ (ρ b).1 → w'.heap[k]? = w.heap[k]?)
    (hos : w'.os = w.os) (htape : w'.tape = w.tape) (hout : w'.output = w.output) (hh : Row w'.heap[(ρ b).1]? blk' cur) (hsz : blk'.ty ≠ itTy → cur.size = (ρ b).2)
    (hp : RdL (ctx ρ S w H) blk'.cs (cur.toList.take blk'.cs.length)) (hf : blk'.full = true → blk'.cs.length = cur.size) : St ρ S w' (H.set b (some blk')) := by
  have hle : (ctx ρ S w H).le (ctx ρ S w' (H.set b (some blk'))) := le_write hS.sub hb hz hsize hheap hos htape hout
  have hlt : b < H.length := (List.getElem?_eq_some_iff.1 hb).1
  have back : ∀ c bl, (H.set b (some blk'))[c]? = some (some bl) → ∃ bl0, H[c]? = some (some bl0) := fun c bl hc => by
    by_cases hbc : b = c
    · subst hbc; exact ⟨blk, hb⟩
    · rw [List.getElem?_set_ne hbc] at hc; exact ⟨bl, hc⟩
  refine ⟨fun k hk => hle.fix k (hS.sub k hk), fun c bl hc hzc => ?_, fun c bl hc hzc => ?_, fun c c' bl bl' hc hc' hzc hzc' e => ?_, hS.glob.mono (fun _ h => h) fun k hk => hheap k (fun e => (hS.sub k hk).2 ⟨b, blk, hb, hz, e.symm⟩)⟩
  · by_cases hbc : b = c
    · subst hbc; omega
    · rw [List.getElem?_set_ne hbc] at hc; exact hS.none c bl hc hzc
  · by_cases hbc : b = c
    · subst hbc
      rw [List.getElem?_set_self hlt] at hc
      injection hc with hc; injection hc with hc; subst hc
      exact ⟨cur, hh, hsz, hp.mono hle _ _, hf⟩
    · rw [List.getElem?_set_ne hbc] at hc
      obtain ⟨cu, hcu⟩ := hS.blk c bl hc hzc
      exact ⟨cu, hcu.heap.of (hheap _ (fun e => hbc (hS.inj b c _ _ hb hc hz hzc e.symm))), hcu.size, hcu.pre.mono hle _ _, hcu.full⟩
  · obtain ⟨x, hx⟩ := back c bl hc
    obtain ⟨y, hy⟩ := back c' bl' hc'
    exact hS.inj c c' x y hx hy hzc hzc' e
theorem St.write {b : Nat} {blk blk' : Blk} {cur : Array Value} (hS : St ρ S w H) (hty : blk'.ty ≠ itTy) (hb : H[b]? = some (some blk)) (hz : 0 < (ρ b).2) (hsize : w'.heap.size = w.heap.size) (hheap : ∀ k, k ≠ (ρ b).1 → w'.heap[k]? = w.heap[k]?)
    (hos : w'.os = w.os) (htape : w'.tape = w.tape) (hout : w'.output = w.output) (hh : w'.heap[(ρ b).1]? = some (.cells cur blk'.ty (0, 0))) (hsz : cur.size = (ρ b).2)
    (hp : RdL (ctx ρ S w H) blk'.cs (cur.toList.take blk'.cs.length)) (hf : blk'.full = true → blk'.cs.length = cur.size) : St ρ S w' (H.set b (some blk')) :=
  hS.writeR hb hz hsize hheap hos htape hout (.inl ⟨hty, hh⟩) (fun _ => hsz) hp hf
end
end Go.VD
end
section
namespace Go.VD
set_option linter.unusedVariables false
inductive TD where
  | bool | int (k : IntKind) | str | slice (e : TypeId) | arr (n : Nat) (e : TypeId) | struct (fs : List (Nat × TypeId)) | ptr (e : TypeId) | fn | map (k e : TypeId) | other
  deriving DecidableEq
structure TI where
  td : TD
  size : Nat
  bytes : Nat
  zero : List Value
abbrev Tbl := TypeId → Option TI
def sameScalar : Value → Value → Bool
  | .bool a, .bool b => a == b
  | .int k a, .int l b => k == l && a == b
  | .string a, .string b => a.data.toList == b.data.toList
  | .pointer none, .pointer none => true
  | .slice none a b, .slice none c d => a == c && b == d
  | .map none, .map none => true
  | .nilFunc, .nilFunc => true
  | .nilIface, .nilIface => true
  | _, _ => false
theorem sameScalar_eq : ∀ {x y : Value}, sameScalar x y = true → x = y ∧ x.oneCell' = true := by
  intro x y h
  unfold sameScalar at h
  split at h <;> first | (cases h; done) | skip
  all_goals simp only [Bool.and_eq_true, beq_iff_eq] at h
  all_goals first
    | exact ⟨rfl, rfl⟩
    | (subst h; exact ⟨rfl, rfl⟩)
    | (obtain ⟨h1, h2⟩ := h; subst h1; subst h2; exact ⟨rfl, rfl⟩)
    | (rename_i a b; cases a; cases b; simp_all [Array.toList_inj, Value.oneCell'])
def sameScalars : List Value → List Value → Bool
  | [], [] => true
  | x :: xs, y :: ys => sameScalar x y && sameScalars xs ys
  | _, _ => false
theorem sameScalars_eq : ∀ {xs ys : List Value}, sameScalars xs ys = true → xs = ys ∧ ∀ u ∈ xs, u.oneCell' = true
  | [], ys, h => by cases ys <;> simp_all [sameScalars]
  | x :: xs, ys, h => by
    cases ys with
    | nil => simp [sameScalars] at h
    | cons y ys =>
      simp only [sameScalars, Bool.and_eq_true] at h
      obtain ⟨h1, h2⟩ := sameScalar_eq h.1
      obtain ⟨h3, h4⟩ := sameScalars_eq h.2
      subst h1; subst h3
      exact ⟨rfl, fun u hu => by rcases List.mem_cons.1 hu with h | h; exact h ▸ h2; exact h4 u h⟩
def TD.isAgg : TD → Bool
  | .struct _ | .arr _ _ => true
  | _ => false
def TD.fits : TD → TypeDesc → Bool
  | .bool, .bool => true
  | .int k, .int l => k == l
  | .str, .string => true
  | .slice e, .slice f => e == f
  | .arr n e, .array m f => n == m && e == f
  | .struct fs, .struct F => F.toList.map (fun f => (f.offset, f.type)) == fs
  | .ptr e, .pointer f => e == f
  | .fn, .func .. => true
  | .map k e, .map k' e' => k == k' && e == e'
  | .other, .interface _ => true
  | .other, .map .. => true
  | .other, .float _ => true
  | _, _ => false
def eqOkB (P : Program) (t : TypeId) : Bool :=
  (match P.underlying t with
  | some (.struct F) => F.toList.all (fun f => !(f.name == "_")) && !P.stoodInHeld t
  | _ => true) && !P.eqGuardType P.depth t
def isAggV : Value → Bool
  | .agg _ => true
  | _ => false
def tiCheck (P : Program) (t : TypeId) (ti : TI) : Bool :=
  match P.info? t, P.underlying t with
  | some i, some d => !Nat.beq t itTy && (!ti.td.isAgg || eqOkB P t) && i.size == ti.size && i.bytes == ti.bytes && ti.td.fits d && ti.zero.length == ti.size && (match i.zero with | some z => sameScalars ti.zero z.cells.toList && (isAggV z == ti.td.isAgg) | none => false)
  | _, _ => false
structure TiOk (P : Program) (t : TypeId) (ti : TI) : Prop where
  ex : ∃ i z d, P.info? t = some i ∧ P.underlying t = some d ∧ i.size = ti.size ∧ i.bytes = ti.bytes ∧ i.zero = some z ∧ z.cells.toList = ti.zero ∧ ti.td.fits d = true ∧ isAggV z = ti.td.isAgg
  one : ∀ u ∈ ti.zero, u.oneCell' = true
  len : ti.zero.length = ti.size
  eq : ti.td.isAgg = true → eqOkB P t = true
  ne : t ≠ itTy
theorem tiOk_of_check {P : Program} {t : TypeId} {ti : TI} (h : tiCheck P t ti = true) : TiOk P t ti := by
  unfold tiCheck at h
  split at h
  · rename_i i d hi hd
    simp only [Bool.and_eq_true, beq_iff_eq] at h
    obtain ⟨⟨⟨⟨⟨⟨hne, h0⟩, h1⟩, h2⟩, h3⟩, h4⟩, h5⟩ := h
    have hne : t ≠ itTy := fun e => by subst e; exact absurd hne (by decide)
    split at h5
    · rename_i z hz
      simp only [Bool.and_eq_true, beq_iff_eq] at h5
      obtain ⟨h5, h8⟩ := h5
      obtain ⟨h6, h7⟩ := sameScalars_eq h5
      exact ⟨⟨i, z, d, hi, hd, h1, h2, hz, h6.symm, h3, h8⟩, h7, h4, fun ha => by simpa [ha] using h0, hne⟩
    · cases h5
  · cases h
structure TblOk (P : Program) (T : Tbl) : Prop where
  ok : ∀ t ti, T t = some ti → TiOk P t ti
def tblOf (l : List (TypeId × TI)) : Tbl := fun t => l.lookup t
theorem tblOk_of {P : Program} {l : List (TypeId × TI)} (h : l.all (fun p => tiCheck P p.1 p.2) = true) : TblOk P (tblOf l) := by
  refine ⟨fun t ti ht => ?_⟩
  unfold tblOf at ht
  have : ∀ l : List (TypeId × TI), l.all (fun p => tiCheck P p.1 p.2) = true → l.lookup t = some ti → tiCheck P t ti = true := by
    intro l
    induction l with
    | nil => intro _ h; simp at h
    | cons p r ih =>
      intro h1 h2
      simp only [List.all_cons, Bool.and_eq_true] at h1
      rw [List.lookup_cons] at h2
      split at h2
      · rename_i he
        have he : t = p.1 := by simpa using he
        injection h2 with h2
        subst he; subst h2
        exact h1.1
      · exact ih h1.2 h2
  exact tiOk_of_check (this l h ht)
section
variable {P : Program} {t : TypeId} {ti : TI}
theorem TiOk.und (h : TiOk P t ti) : ∃ d, P.underlying t = some d ∧ ti.td.fits d = true := by
  obtain ⟨i, z, d, _, hd, _, _, _, _, hf, _⟩ := h.ex
  exact ⟨d, hd, hf⟩
theorem TiOk.bool (h : TiOk P t ti) (e : ti.td = .bool) : P.underlying t = some .bool := by
  obtain ⟨d, hd, hf⟩ := h.und
  rw [e] at hf; cases d <;> simp_all [TD.fits]
theorem TiOk.int (h : TiOk P t ti) {k : IntKind} (e : ti.td = .int k) : P.underlying t = some (.int k) := by
  obtain ⟨d, hd, hf⟩ := h.und
  rw [e] at hf; cases d <;> simp_all [TD.fits]
theorem TiOk.str (h : TiOk P t ti) (e : ti.td = .str) : P.underlying t = some .string := by
  obtain ⟨d, hd, hf⟩ := h.und
  rw [e] at hf; cases d <;> simp_all [TD.fits]
theorem TiOk.slice (h : TiOk P t ti) {el : TypeId} (e : ti.td = .slice el) : P.underlying t = some (.slice el) := by
  obtain ⟨d, hd, hf⟩ := h.und
  rw [e] at hf; cases d <;> simp_all [TD.fits]
theorem TiOk.arr (h : TiOk P t ti) {n : Nat} {el : TypeId} (e : ti.td = .arr n el) : P.underlying t = some (.array n el) := by
  obtain ⟨d, hd, hf⟩ := h.und
  rw [e] at hf; cases d <;> simp_all [TD.fits]
theorem TiOk.ptr (h : TiOk P t ti) {el : TypeId} (e : ti.td = .ptr el) : P.underlying t = some (.pointer el) := by
  obtain ⟨d, hd, hf⟩ := h.und
  rw [e] at hf; cases d <;> simp_all [TD.fits]
theorem TiOk.map (h : TiOk P t ti) {k el : TypeId} (e : ti.td = .map k el) : P.underlying t = some (.map k el) := by
  obtain ⟨d, hd, hf⟩ := h.und
  rw [e] at hf; cases d <;> simp_all [TD.fits]
theorem TiOk.struct (h : TiOk P t ti) {fs : List (Nat × TypeId)} (e : ti.td = .struct fs) : ∃ F : Array Field, P.underlying t = some (.struct F) ∧ F.toList.map (fun f => (f.offset, f.type)) = fs := by
  obtain ⟨d, hd, hf⟩ := h.und
  rw [e] at hf; cases d <;> simp_all [TD.fits]
theorem TiOk.run_info (h : TiOk P t ti) (w : World) : ∃ i z, (typeInfo t).run P w = .ok i w ∧ P.info? t = some i ∧ i.size = ti.size ∧ i.bytes = ti.bytes ∧ i.zero = some z ∧ z.cells.toList = ti.zero := by
  obtain ⟨i, z, d, hi, hd, h1, h2, hz, h6, hf, _⟩ := h.ex
  exact ⟨i, z, by simp [typeInfo, hi], hi, h1, h2, hz, h6⟩
theorem TiOk.run_size (h : TiOk P t ti) (w : World) : (sizeOf t).run P w = .ok ti.size w := by
  obtain ⟨i, z, h1, _, h2, _⟩ := h.run_info w
  simp [sizeOf, h1, h2]
theorem TiOk.run_zero (h : TiOk P t ti) : ∃ z, z.cells.toList = ti.zero ∧ ∀ w, (zeroValue t).run P w = .ok z w := by
  obtain ⟨i, z, d, hi, hd, h1, h2, hz, h6, hf, _⟩ := h.ex
  exact ⟨z, h6, fun w => by simp [zeroValue, typeInfo, hi, hz]⟩
theorem TiOk.run_zero' (h : TiOk P t ti) : ∃ z, z.cells.toList = ti.zero ∧ isAggV z = ti.td.isAgg ∧ ∀ w, (zeroValue t).run P w = .ok z w := by
  obtain ⟨i, z, d, hi, hd, h1, h2, hz, h6, hf, ha⟩ := h.ex
  exact ⟨z, h6, ha, fun w => by simp [zeroValue, typeInfo, hi, hz]⟩
def descAgg : TypeDesc → Bool
  | .struct _ | .array _ _ => true
  | _ => false
theorem TD.isAgg_fits : ∀ (td : TD) (d : TypeDesc), td.fits d = true → td.isAgg = descAgg d := by
  intro td d h
  cases td <;> cases d <;> simp_all [TD.fits, TD.isAgg, descAgg]
theorem TiOk.run_isAgg (h : TiOk P t ti) (w : World) : (isAgg t).run P w = .ok ti.td.isAgg w := by
  obtain ⟨d, hd, hf⟩ := h.und
  rw [TD.isAgg_fits _ _ hf]
  simp only [isAgg, Sem.run_bind, run_underlying hd, Result.andThen_ok]
  cases d <;> rfl
end
def binV (td : Option TD) (op : BinOp) : Value → Value → Option (Value × Prop)
  | .int k a, .int k' b =>
    match op with
    | .shl => some (.int k (k.wrap (a * 2 ^ (min b.toNat k.bits))), 0 ≤ b)
    | .shr => some (.int k (a.fdiv (2 ^ (min b.toNat k.bits))), 0 ≤ b)
    | op => if k ≠ k' then none else
      match op with
      | .add => some (.int k (k.wrap (a + b)), True)
      | .sub => some (.int k (k.wrap (a - b)), True)
      | .mul => some (.int k (k.wrap (a * b)), True)
      | .quo => some (.int k (k.wrap (a.tdiv b)), b ≠ 0)
      | .rem => some (.int k (a.tmod b), b ≠ 0)
      | .and => some (.int k (Go.bits .and k a b), True)
      | .or => some (.int k (Go.bits .or k a b), True)
      | .xor => some (.int k (Go.bits .xor k a b), True)
      | .andNot => some (.int k (Go.bits .andNot k a b), True)
      | .eql => some (.bool (a == b), True)
      | .neq => some (.bool (a != b), True)
      | .lss => some (.bool (a < b), True)
      | .leq => some (.bool (a ≤ b), True)
      | .gtr => some (.bool (b < a), True)
      | .geq => some (.bool (b ≤ a), True)
      | _ => none
  | .string x, .string y =>
    match op with
    | .add => some (.string (x ++ y), ((x.size + y.size : Nat) : Int) ≤ IntKind.i64.max)
    | .eql => some (.bool (x.toList == y.toList), True)
    | .neq => some (.bool !(x.toList == y.toList), True)
    | .lss => some (.bool (Op.bytesLess x.toList y.toList), True)
    | .leq => some (.bool (Op.bytesLess x.toList y.toList || x.toList == y.toList), True)
    | .gtr => some (.bool !(Op.bytesLess x.toList y.toList || x.toList == y.toList), True)
    | .geq => some (.bool !(Op.bytesLess x.toList y.toList), True)
    | _ => none
  | .bool a, .bool b =>
    match td, op with
    | some .bool, .eql => some (.bool (a == b), True)
    | some .bool, .neq => some (.bool (!(a == b)), True)
    | _, _ => none
  | .slice A _ _, .slice none 0 0 =>
    match td, op with
    | some (.slice _), .eql => some (.bool A.isNone, True)
    | some (.slice _), .neq => some (.bool (!A.isNone), True)
    | _, _ => none
  | .nilIface, _ => none
  | _, _ => none
theorem pair_inj {α β : Type _} {a a' : α} {b b' : β} (h : some (a, b) = some (a', b')) : a = a' ∧ b = b' := by
  injection h with h; injection h with h1 h2; exact ⟨h1, h2⟩
theorem run_equal_bool {P : Program} {t : TypeId} (h : P.underlying t = some .bool) (a b : Bool) (w : World) : (Op.equal t (.bool a) (.bool b)).run P w = .ok (a == b) w := by
  have e : ∀ d, (Op.equalIn (d + 1) t (.bool a) (.bool b)).run P w = .ok (a == b) w := fun d => by simp [Op.equalIn, run_underlying h]
  exact e 9999
theorem run_equal_slice {P : Program} {t e : TypeId} (h : P.underlying t = some (.slice e)) (A : Option Addr) (n c : Nat) (w : World) : (Op.equal t (.slice A n c) (.slice none 0 0)).run P w = .ok A.isNone w := by
  have e : ∀ d, (Op.equalIn (d + 1) t (.slice A n c) (.slice none 0 0)).run P w = .ok A.isNone w := fun d => by cases A <;> simp [Op.equalIn, run_underlying h]
  exact e 9999
theorem eqGuard_at_slice (op : BinOp) (t : TypeId) (ox oy : Operand) (A B : Option Addr) (n c m d : Nat) : eqGuard op t ox oy (.slice A n c) (.slice B m d) = pure () := by
  unfold eqGuard
  cases op <;> rfl
theorem binOp_at_slice (op : BinOp) (ho : op = .eql ∨ op = .neq) {P : Program} {t e : TypeId} (h : P.underlying t = some (.slice e)) (A : Option Addr) (n c : Nat) (w : World) : (binOp op t (.slice A n c) (.slice none 0 0)).run P w = .ok (.bool (if op = .eql then A.isNone else !A.isNone)) w := by
  rcases ho with rfl | rfl
  · simp only [binOp, Sem.run_bind, run_equal_slice h, Result.andThen_ok, Sem.run_pure, if_true]
  · simp only [binOp, Sem.run_bind, run_equal_slice h, Result.andThen_ok, Sem.run_pure]; rfl
theorem binV_sound {P : Program} {T : Tbl} (hT : TblOk P T) {t : TypeId} {op : BinOp} {x y z : Value} {c : Prop} (h : binV ((T t).map (·.td)) op x y = some (z, c)) (hc : c) (ox oy : Operand) (w : World) :
    (eqGuard op t ox oy x y).run P w = .ok () w ∧ (binOp op t x y).run P w = .ok z w := by
  unfold binV at h
  split at h
  · rename_i k a k' b
    refine ⟨by rw [eqGuard_at_int]; rfl, ?_⟩
    cases op
    case shl => obtain ⟨rfl, rfl⟩ := pair_inj h; simp [binOp, Op.shift, Int.not_lt.2 hc]
    case shr => obtain ⟨rfl, rfl⟩ := pair_inj h; simp [binOp, Op.shift, Int.not_lt.2 hc]
    all_goals
      simp only at h
      split at h
      · cases h
      · rename_i hk
        have hk : k = k' := by simpa using hk
        subst hk
        obtain ⟨rfl, rfl⟩ := pair_inj h
        first
        | (simp [binOp, Op.intArith]; done)
        | (simp [binOp, Op.intDiv, hc]; done)
        | (simp [binOp, Op.intCmp]; done)
        | (simp only [binOp, ne_eq, not_true_eq_false, if_false]; rfl)
  · rename_i a b
    refine ⟨by rw [eqGuard_at_string]; rfl, ?_⟩
    cases op
    case add =>
      obtain ⟨rfl, rfl⟩ := pair_inj h
      simp only [binOp, Op.stringOp]; rw [if_neg (by omega)]; rfl
    all_goals first
      | (cases h; done)
      | (obtain ⟨rfl, rfl⟩ := pair_inj h; simp only [binOp, Op.stringOp]; rfl)
  · rename_i a b
    refine ⟨by rw [eqGuard_at_bool]; rfl, ?_⟩
    split at h
    · rename_i htd
      cases hti : T t with
      | none => simp [hti] at htd
      | some ti =>
        simp [hti] at htd
        obtain ⟨rfl, rfl⟩ := pair_inj h
        simp only [binOp, Sem.run_bind, run_equal_bool ((hT.ok t ti hti).bool htd), Result.andThen_ok, Sem.run_pure]
    · rename_i htd
      cases hti : T t with
      | none => simp [hti] at htd
      | some ti =>
        simp [hti] at htd
        obtain ⟨rfl, rfl⟩ := pair_inj h
        simp only [binOp, Sem.run_bind, run_equal_bool ((hT.ok t ti hti).bool htd), Result.andThen_ok, Sem.run_pure]
    · cases h
  · rename_i A n1 c1
    refine ⟨by rw [eqGuard_at_slice]; rfl, ?_⟩
    split at h
    · rename_i htd
      cases hti : T t with
      | none => simp [hti] at htd
      | some ti =>
        simp [hti] at htd
        obtain ⟨rfl, rfl⟩ := pair_inj h
        rw [binOp_at_slice _ (.inl rfl) ((hT.ok t ti hti).slice htd)]; rfl
    · rename_i htd
      cases hti : T t with
      | none => simp [hti] at htd
      | some ti =>
        simp [hti] at htd
        obtain ⟨rfl, rfl⟩ := pair_inj h
        rw [binOp_at_slice _ (.inr rfl) ((hT.ok t ti hti).slice htd)]; rfl
    · cases h
  · cases h
  · cases h
def unV (op : UnOp) : Value → Option Value
  | .int k n => match op with
    | .neg => some (.int k (k.wrap (0 - n)))
    | .xor => some (.int k (Go.bits .xor k (if k.signed then -1 else k.max) n))
    | _ => none
  | .bool b => match op with
    | .not => some (.bool !b)
    | _ => none
  | _ => none
theorem unV_sound {P : Program} {op : UnOp} {x z : Value} (h : unV op x = some z) (w : World) : (Op.unary op x).run P w = .ok z w := by
  unfold unV at h
  split at h
  · cases op <;> simp at h <;> subst h
    · simp [Op.unary, Op.intArith]
    · rfl
  · cases op <;> simp at h <;> subst h
    simp [Op.unary]
  · cases h
def convV (s d : Option TD) : Value → Option Value
  | .int _ n => match s, d with
    | some _, some (.int k) => some (.int k (k.wrap n))
    | some _, some .str => some (.string (Utf8.encode n))
    | _, _ => none
  | .string x => match s, d with
    | some _, some .str => some (.string x)
    | _, _ => none
  | _ => none
theorem convV_sound {P : Program} {T : Tbl} (hT : TblOk P T) {s d : TypeId} {x z : Value} (h : convV ((T s).map (·.td)) ((T d).map (·.td)) x = some z) (w : World) : (convert s d x).run P w = .ok z w := by
  unfold convV at h
  split at h
  · split at h
    · rename_i htd hs hd
      cases hsi : T s with
      | none => simp [hsi] at hs
      | some si =>
        cases hdi : T d with
        | none => simp [hdi] at hd
        | some di =>
          simp [hdi] at hd
          injection h with h; subst h
          obtain ⟨ds, hds, _⟩ := (hT.ok s si hsi).und
          have hdd := (hT.ok d di hdi).int hd
          simp [convert, run_underlying hds, run_underlying hdd, Conv.intToInt]
    · rename_i htd hs hd
      cases hsi : T s with
      | none => simp [hsi] at hs
      | some si =>
        cases hdi : T d with
        | none => simp [hdi] at hd
        | some di =>
          simp [hdi] at hd
          injection h with h; subst h
          obtain ⟨ds, hds, _⟩ := (hT.ok s si hsi).und
          have hdd := (hT.ok d di hdi).str hd
          simp [convert, run_underlying hds, run_underlying hdd, Conv.intToString]
    · cases h
  · split at h
    · rename_i hs hd
      cases hsi : T s with
      | none => simp [hsi] at hs
      | some si =>
        cases hdi : T d with
        | none => simp [hdi] at hd
        | some di =>
          simp [hdi] at hd
          injection h with h; subst h
          obtain ⟨ds, hds, _⟩ := (hT.ok s si hsi).und
          have hdd := (hT.ok d di hdi).str hd
          simp [convert, run_underlying hds, run_underlying hdd]
    · cases h
  · cases h
end Go.VD
end
