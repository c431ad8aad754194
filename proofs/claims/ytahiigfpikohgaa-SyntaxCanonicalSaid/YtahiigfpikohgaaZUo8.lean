import Derived.Test.YtahiigfpikohgaaZUo7
section
namespace Go.VD
set_option linter.unusedVariables false
set_option linter.unusedSimpArgs false
structure Ctx.lem (E E' : Ctx) : Prop where
  S : ∀ k, E.S k → E'.S k
  keep : ∀ k, E.S k → E'.w.heap[k]? = E.w.heap[k]?
  new : ∀ k, E'.S k → E.S k ∨ Live E.ρ E.H k ∨ E.w.heap.size ≤ k
  fix : ∀ k, Fix E k → Fix E' k
  heap : ∀ k, Fix E k → E'.w.heap[k]? = E.w.heap[k]?
  size : E.w.heap.size ≤ E'.w.heap.size
  os : E'.w.os = E.w.os
  tape : E'.w.tape = E.w.tape
  output : E'.w.output = E.w.output
theorem Ctx.le.lem {E E' : Ctx} (h : E.le E') : E.lem E' := ⟨h.S, h.keep, h.new, h.fix, h.heap, h.size, h.os, h.tape, h.output⟩
theorem Ctx.lem.refl (E : Ctx) : E.lem E := (Ctx.le.refl E).lem
theorem Ctx.lem.trans {E E' E'' : Ctx} (h : E.lem E') (k : E'.lem E'') : E.lem E'' :=
  ⟨fun x hx => k.S x (h.S x hx), fun x hx => (k.keep x (h.S x hx)).trans (h.keep x hx),
    fun x hx => by
      rcases k.new x hx with h1 | h1 | h1
      · exact h.new x h1
      · by_cases hl : Live E.ρ E.H x
        · exact .inr (.inl hl)
        · rcases Nat.lt_or_ge x E.w.heap.size with h2 | h2
          · exact absurd h1 (h.fix x ⟨h2, hl⟩).2
          · exact .inr (.inr h2)
      · exact .inr (.inr (Nat.le_trans h.size h1)),
    fun x hx => k.fix x (h.fix x hx), fun x hx => (k.heap x (h.fix x hx)).trans (h.heap x hx),
    Nat.le_trans h.size k.size, k.os.trans h.os, k.tape.trans h.tape, k.output.trans h.output⟩
def DWP (P : Program) (nt : Nat) (c : Code) (Q : Exit → Env → Heap → Prop) (env : Env) (H : Heap) : Prop :=
  ∀ ρ S w a, Inv nt ρ S w H env a → c.wp P (fun e a' w' => ∃ env' H' ρ' S', Q e env' H' ∧ Inv nt ρ' S' w' H' env' a' ∧ (ctx ρ S w H).lem (ctx ρ' S' w' H')) a w
theorem DW.dwp {P : Program} {nt : Nat} {c : Code} {Q : Exit → Env → Heap → Prop} {env : Env} {H : Heap} (h : DW P nt c Q env H) : DWP P nt c Q env H :=
  fun ρ S w a hi => wp_mono (h ρ S w a hi) fun e a' w' ⟨env', H', ρ', S', h1, h2, h3⟩ => ⟨env', H', ρ', S', h1, h2, h3.lem⟩
theorem DWP.mono {P : Program} {nt : Nat} {c : Code} {Q Q' : Exit → Env → Heap → Prop} {env : Env} {H : Heap} (h : DWP P nt c Q env H) (hq : ∀ e env H, Q e env H → Q' e env H) : DWP P nt c Q' env H :=
  fun ρ S w a hi => wp_mono (h ρ S w a hi) fun e a' w' ⟨env', H', ρ', S', h1, h2⟩ => ⟨env', H', ρ', S', hq _ _ _ h1, h2⟩
def View (nt : Nat) (env : Env) (H : Heap) (env2 : Env) (H2 : Heap) : Prop :=
  ∀ ρ S w a, Inv nt ρ S w H env a → ∃ ρ' S', Inv nt ρ' S' w H2 env2 a ∧ (ctx ρ S w H).lem (ctx ρ' S' w H2)
theorem DWP.view {P : Program} {nt : Nat} {c : Code} {Q : Exit → Env → Heap → Prop} {env env2 : Env} {H H2 : Heap} (v : View nt env H env2 H2) (h : DWP P nt c Q env2 H2) : DWP P nt c Q env H := by
  intro ρ S w a hi
  obtain ⟨ρ', S', hi', hle⟩ := v ρ S w a hi
  exact wp_mono (h ρ' S' w a hi') fun e a' w' ⟨env', H', ρ'', S'', h1, h2, h3⟩ => ⟨env', H', ρ'', S'', h1, h2, hle.trans h3⟩
theorem DWP.post {P : Program} {nt : Nat} {c : Code} {Q : Exit → Env → Heap → Prop} {env : Env} {H : Heap} (h : DWP P nt c (fun e env' H' => ∃ env2 H2, View nt env' H' env2 H2 ∧ Q e env2 H2) env H) : DWP P nt c Q env H := by
  intro ρ S w a hi
  refine wp_mono (h ρ S w a hi) fun e a' w' ⟨env', H', ρ', S', ⟨env2, H2, v, hq⟩, h2, h3⟩ => ?_
  obtain ⟨ρ'', S'', hi', hle⟩ := v ρ' S' w' a' h2
  exact ⟨env2, H2, ρ'', S'', hq, hi', h3.trans hle⟩
theorem DWP.loop {P : Program} {nt : Nat} {α : Type} (J : α → Prop) (I : α → Env) (HI : α → Heap) (μ : α → Nat) {c : Code} {Q : Exit → Env → Heap → Prop} (x0 : α) (h0 : J x0)
    (round : ∀ x, J x → DWP P nt c (thenQ (fun env' H' => ∃ y, μ y < μ x ∧ J y ∧ View nt env' H' (I y) (HI y)) Q) (I x) (HI x)) : DWP P nt (.loop c) Q (I x0) (HI x0) := by
  intro ρ S w a hi
  refine wp_loop_ghost (fun n a' w' => ∃ x ρ' S', μ x = n ∧ J x ∧ Inv nt ρ' S' w' (HI x) (I x) a' ∧ (ctx ρ S w (HI x0)).lem (ctx ρ' S' w' (HI x))) (μ x0) ⟨x0, ρ, S, rfl, h0, hi, Ctx.lem.refl _⟩ ?_
  rintro n a' w' ⟨x, ρ', S', rfl, hx, hi', hle⟩
  refine wp_mono (round x hx ρ' S' w' a' hi') fun e a'' w'' ⟨env', H', ρ'', S'', h1, h2, h3⟩ => ?_
  cases e with
  | normal =>
    obtain ⟨y, hy, hJ, v⟩ := h1
    obtain ⟨ρ3, S3, hi3, hle3⟩ := v ρ'' S'' w'' a'' h2
    exact ⟨μ y, hy, y, ρ3, S3, rfl, hJ, hi3, (hle.trans h3).trans hle3⟩
  | _ => exact ⟨env', H', ρ'', S'', h1, h2, hle.trans h3⟩
def idxOf (keep : List (Option Nat)) (b : Nat) : Option Nat := go keep 0
where go : List (Option Nat) → Nat → Option Nat
  | [], _ => none
  | some c :: r, i => bif Nat.beq c b then some i else go r (i + 1)
  | none :: r, i => go r (i + 1)
mutual
def viewD (keep : List (Option Nat)) (H : Heap) : D → Option (D × Prop)
  | .v x => some (.v x, True)
  | .ro n xs => some (.ro n xs, True)
  | .rp xs j => some (.rp xs j, True)
  | .sl b off n c => match idxOf keep b with
    | some i => some (.sl i off n c, True)
    | none => sealD H (.sl b off n c)
  | .ptr b off => match idxOf keep b with
    | some i => some (.ptr i off, True)
    | none => sealD H (.ptr b off)
  | .agg xs => match viewL keep H xs with
    | some (ys, c) => some (.agg ys, c)
    | none => none
  | .tup xs => match viewL keep H xs with
    | some (ys, c) => some (.tup ys, c)
    | none => none
  | .ifc t d => match viewD keep H d with
    | some (e, c) => some (.ifc t e, c)
    | none => none
  | .fn f k caps => match viewL keep H caps with
    | some (ys, c) => some (.fn f k ys, c)
    | none => none
def viewL (keep : List (Option Nat)) (H : Heap) : List D → Option (List D × Prop)
  | [] => some ([], True)
  | d :: ds => match viewD keep H d, viewL keep H ds with
    | some (e, c), some (es, cs) => some (e :: es, c ∧ cs)
    | _, _ => none
end
def nilOk (keep : List (Option Nat)) : D → D → Prop
  | .v (.slice none 0 0), .sl i 0 0 (.toEnd _) => match keep[i]? with
    | some none => True
    | _ => False
  | _, _ => False
def isNilSl : D → D → Bool
  | .v (.slice none 0 0), .sl _ 0 0 (.toEnd _) => true
  | _, _ => false
def viewOk (keep : List (Option Nat)) (H : Heap) (d d2 : D) : Prop :=
  bif isNilSl d d2 then nilOk keep d d2 else (match viewD keep H d with
    | some (e, c) => c ∧ e = d2
    | none => False)
def viewEnv (keep : List (Option Nat)) (H : Heap) (env : Env) : Env → Prop
  | [] => True
  | (t, d2) :: r => (match env.lookup t with
    | some d => viewOk keep H d d2
    | none => False) ∧ viewEnv keep H env r
def viewHeap (H : Heap) : List (Option Nat) → Heap → Prop
  | [], H2 => H2 = []
  | some b :: ks, x :: xs => (match blkRaw H b with
    | some blk => x = some blk ∧ NamelessL blk.cs
    | none => False) ∧ viewHeap H ks xs
  | none :: ks, some ⟨_, cs, _⟩ :: xs => cs = [] ∧ viewHeap H ks xs
  | _, _ => False
def nodupB : List (Option Nat) → Bool
  | [] => true
  | some b :: r => !(r.contains (some b)) && nodupB r
  | none :: r => nodupB r
def viewAll (keep : List (Option Nat)) (env : Env) (H : Heap) (env2 : Env) (H2 : Heap) : Prop := nodupB keep = true ∧ viewHeap H keep H2 ∧ viewEnv keep H env env2
section
variable {keep : List (Option Nat)} {H H2 : Heap} {ρ : Nat → Nat × Nat} {S : Nat → Prop} {w : World}
theorem idxOf_go : ∀ (l : List (Option Nat)) (k i b : Nat), idxOf.go b l k = some i → ∃ j, i = k + j ∧ l[j]? = some (some b)
  | [], k, i, b, h => by simp [idxOf.go] at h
  | some c :: r, k, i, b, h => by
    simp only [idxOf.go] at h
    cases hc : Nat.beq c b with
    | true =>
      rw [hc] at h
      simp only [cond_true, Option.some.injEq] at h
      exact ⟨0, by omega, by simp [Nat.eq_of_beq_eq_true hc]⟩
    | false =>
      rw [hc] at h
      obtain ⟨j, h1, h2⟩ := idxOf_go r (k + 1) i b h
      exact ⟨j + 1, by omega, by simpa using h2⟩
  | none :: r, k, i, b, h => by
    simp only [idxOf.go] at h
    obtain ⟨j, h1, h2⟩ := idxOf_go r (k + 1) i b h
    exact ⟨j + 1, by omega, by simpa using h2⟩
theorem idxOf_some {i b : Nat} (h : idxOf keep b = some i) : keep[i]? = some (some b) := by
  obtain ⟨j, h1, h2⟩ := idxOf_go keep 0 i b h
  rw [h1, Nat.zero_add]; exact h2
theorem idxOf_go_none : ∀ (l : List (Option Nat)) (k b : Nat), idxOf.go b l k = none → some b ∉ l
  | [], k, b, h => by simp
  | some c :: r, k, b, h => by
    simp only [idxOf.go] at h
    cases hc : Nat.beq c b with
    | true => rw [hc] at h; cases h
    | false =>
      rw [hc] at h
      have := idxOf_go_none r (k + 1) b h
      have hne : b ≠ c := fun e => by subst e; simp at hc
      simp [this, hne]
  | none :: r, k, b, h => by
    simp only [idxOf.go] at h
    have := idxOf_go_none r (k + 1) b h
    simp [this]
theorem nodup_get : ∀ (l : List (Option Nat)) (i j b : Nat), nodupB l = true → l[i]? = some (some b) → l[j]? = some (some b) → i = j
  | [], i, j, b, _, h, _ => by simp at h
  | x :: r, i, j, b, hn, hi, hj => by
    have hr : nodupB r = true := by
      cases x with
      | none => simpa [nodupB] using hn
      | some c => simp only [nodupB, Bool.and_eq_true] at hn; exact hn.2
    cases i with
    | zero =>
      cases j with
      | zero => rfl
      | succ j =>
        simp at hi hj
        subst hi
        simp only [nodupB, Bool.and_eq_true, Bool.not_eq_true'] at hn
        have : some b ∈ r := List.mem_of_getElem? hj
        have h1 := hn.1
        simp [this] at h1
    | succ i =>
      cases j with
      | zero =>
        simp at hi hj
        subst hj
        simp only [nodupB, Bool.and_eq_true, Bool.not_eq_true'] at hn
        have : some b ∈ r := List.mem_of_getElem? hi
        have h1 := hn.1
        simp [this] at h1
      | succ j => rw [nodup_get r i j b hr (by simpa using hi) (by simpa using hj)]
theorem viewHeap_get : ∀ (ks : List (Option Nat)) (H2 : Heap), viewHeap H ks H2 → H2.length = ks.length ∧ ∀ (i : Nat) (blk : Blk), H2[i]? = some (some blk) → (∃ b, ks[i]? = some (some b) ∧ H[b]? = some (some blk) ∧ NamelessL blk.cs) ∨ (ks[i]? = some none ∧ blk.cs = [])
  | [], H2, h => by simp only [viewHeap] at h; subst h; simp
  | some b :: ks, [], h => by simp [viewHeap] at h
  | some b :: ks, x :: xs, h => by
    simp only [viewHeap] at h
    obtain ⟨h1, h2⟩ := h
    obtain ⟨hl, ih⟩ := viewHeap_get ks xs h2
    split at h1
    · rename_i blk0 hb
      obtain ⟨rfl, hn⟩ := h1
      refine ⟨by simp [hl], fun i blk hi => ?_⟩
      cases i with
      | zero =>
        simp at hi; subst hi
        exact .inl ⟨b, by simp, blkRaw_some hb, hn⟩
      | succ i => simpa using ih i blk (by simpa using hi)
    · exact h1.elim
  | none :: ks, [], h => by simp [viewHeap] at h
  | none :: ks, none :: xs, h => by simp [viewHeap] at h
  | none :: ks, some ⟨ty, cs, f⟩ :: xs, h => by
    simp only [viewHeap] at h
    obtain ⟨h1, h2⟩ := h
    obtain ⟨hl, ih⟩ := viewHeap_get ks xs h2
    refine ⟨by simp [hl], fun i blk hi => ?_⟩
    cases i with
    | zero => simp at hi; subst hi; exact .inr ⟨by simp, h1⟩
    | succ i => simpa using ih i blk (by simpa using hi)
def reρ (keep : List (Option Nat)) (ρ : Nat → Nat × Nat) : Nat → Nat × Nat := fun i => match keep[i]? with
  | some (some b) => ρ b
  | _ => (0, 0)
def reS (keep : List (Option Nat)) (ρ : Nat → Nat × Nat) (H : Heap) (S : Nat → Prop) : Nat → Prop := fun k => S k ∨ ∃ b blk, H[b]? = some (some blk) ∧ some b ∉ keep ∧ 0 < (ρ b).2 ∧ (ρ b).1 = k
theorem view_live (hh : viewHeap H keep H2) {k : Nat} (h : Live (reρ keep ρ) H2 k) : ∃ b blk, some b ∈ keep ∧ H[b]? = some (some blk) ∧ 0 < (ρ b).2 ∧ (ρ b).1 = k := by
  obtain ⟨i, blk, hi, hz, hk⟩ := h
  rcases (viewHeap_get _ _ hh).2 i blk hi with ⟨b, h1, h2, _⟩ | ⟨h1, _⟩
  · simp only [reρ, h1] at hz hk
    exact ⟨b, blk, List.mem_of_getElem? h1, h2, hz, hk⟩
  · simp only [reρ, h1] at hz
    exact absurd hz (by simp)
theorem view_lem (hS : St ρ S w H) (hh : viewHeap H keep H2) : (ctx ρ S w H).lem (ctx (reρ keep ρ) (reS keep ρ H S) w H2) :=
  ⟨fun k h => .inl h, fun _ _ => rfl, fun k h => by
    rcases h with h | ⟨b, blk, h1, _, h2, h3⟩
    · exact .inl h
    · exact .inr (.inl ⟨b, blk, h1, h2, h3⟩),
   fun k h => ⟨h.1, fun hl => by
    obtain ⟨b, blk, _, h1, h2, h3⟩ := view_live hh hl
    exact h.2 ⟨b, blk, h1, h2, h3⟩⟩, fun _ _ => rfl, Nat.le_refl _, rfl, rfl, rfl⟩
theorem view_st (hS : St ρ S w H) (hn : nodupB keep = true) (hh : viewHeap H keep H2) : St (reρ keep ρ) (reS keep ρ H S) w H2 := by
  refine ⟨fun k hk => ?_, fun i blk hi hz => ?_, fun i blk hi hz => ?_, fun i j bi bj hi hj hz hz' he => ?_, hS.glob.mono (fun _ h => .inl h) fun _ _ => rfl⟩
  · rcases hk with hk | ⟨b, blk, h1, h2, h3, h4⟩
    · exact ⟨(hS.sub k hk).1, fun hl => by
        obtain ⟨b, blk, _, h1, h2, h3⟩ := view_live hh hl
        exact (hS.sub k hk).2 ⟨b, blk, h1, h2, h3⟩⟩
    · refine ⟨hS.lt ⟨b, blk, h1, h3, h4⟩, fun hl => ?_⟩
      obtain ⟨b', blk', hm, h1', h3', h4'⟩ := view_live hh hl
      have := hS.inj b b' _ _ h1 h1' h3 h3' (h4.trans h4'.symm)
      subst this
      exact h2 hm
  · rcases (viewHeap_get _ _ hh).2 i blk hi with ⟨b, h1, h2, _⟩ | ⟨_, h2⟩
    · simp only [reρ, h1] at hz
      exact hS.none b blk h2 hz
    · exact h2
  · rcases (viewHeap_get _ _ hh).2 i blk hi with ⟨b, h1, h2, h3⟩ | ⟨h1, _⟩
    · simp only [reρ, h1] at hz ⊢
      obtain ⟨cur, hc⟩ := hS.blk b blk h2 hz
      refine ⟨cur, hc.heap, hc.size, ?_, hc.full⟩
      have hp := hc.pre
      have key : ∀ (ds : List D) (us : List Value), NamelessL ds → RdL (ctx ρ S w H) ds us → RdL (ctx (reρ keep ρ) (reS keep ρ H S) w H2) ds us := by
        intro ds
        induction ds with
        | nil => intro us _ h; simpa only [RdL] using h
        | cons d ds ih =>
          intro us hn h
          simp only [NamelessL] at hn
          simp only [RdL] at h ⊢
          obtain ⟨u, r, e, ho, hd, hr⟩ := h
          exact ⟨u, r, e, ho, hd.moveS (fun k hk => .inl hk) hn.1, ih r hn.2 hr⟩
      exact key _ _ h3 hp
    · simp only [reρ, h1] at hz
      exact absurd hz (by simp)
  · rcases (viewHeap_get _ _ hh).2 i bi hi with ⟨b, h1, h2, _⟩ | ⟨h1, _⟩
    · rcases (viewHeap_get _ _ hh).2 j bj hj with ⟨c, h1', h2', _⟩ | ⟨h1', _⟩
      · simp only [reρ, h1] at hz he
        simp only [reρ, h1'] at hz' he
        have := hS.inj b c _ _ h2 h2' hz hz' he
        subst this
        exact nodup_get keep i j b hn h1 h1'
      · simp only [reρ, h1'] at hz'
        exact absurd hz' (by simp)
    · simp only [reρ, h1] at hz
      exact absurd hz (by simp)
theorem seal_rd {b : Nat} (hS : St ρ S w H) (hb : some b ∉ keep) {d e : D} {c : Prop} {u : Value} (hd : (∃ off n cp, d = .sl b off n cp) ∨ ∃ off, d = .ptr b off) (h : sealD H d = some (e, c)) (hc : c) (hr : Rd (ctx ρ S w H) d u) : Rd (ctx (reρ keep ρ) (reS keep ρ H S) w H2) e u := by
  have main : ∀ blk, H[b]? = some (some blk) → (∀ b' blk', H[b']? = some (some blk') → 0 < (ρ b').2 → True) → True := fun _ _ _ => trivial
  have hT : ∀ (H0 : Heap), (∀ x, H0[x]? = if x = b then H[b]? else none) → True := fun _ _ => trivial
  let Hb : Heap := (List.range (b + 1)).map fun x => if x = b then (H[b]?).join else none
  have hget : ∀ x blk, Hb[x]? = some (some blk) → x = b ∧ H[b]? = some (some blk) := by
    intro x blk hx
    simp only [Hb, List.getElem?_map] at hx
    cases hr : (List.range (b + 1))[x]? with
    | none => simp [hr] at hx
    | some y =>
      have hy : y = x := by
        have := List.getElem?_eq_some_iff.1 hr
        obtain ⟨_, h2⟩ := this
        simpa using h2.symm
      subst hy
      simp only [hr, Option.map_some, Option.some.injEq] at hx
      by_cases hyb : y = b
      · subst hyb
        simp only [if_true] at hx
        cases hh : H[y]? with
        | none => simp [hh] at hx
        | some o => simp [hh] at hx; subst hx; exact ⟨rfl, rfl⟩
      · simp [hyb] at hx
  have hblk : blkAt Hb b = blkAt H b := by
    unfold blkAt
    have : Hb[b]? = some ((H[b]?).join) := by
      simp [Hb]
    rw [this]
    cases hh : H[b]? with
    | none => rfl
    | some o => cases o <;> rfl
  have hSb : St ρ S w Hb := by
    refine ⟨fun k hk => ⟨(hS.sub k hk).1, fun ⟨x, blk, hx, hz, e⟩ => ?_⟩, fun x blk hx hz => ?_, fun x blk hx hz => ?_, fun x y bx by_ hx hy hzx hzy e => ?_, hS.glob⟩
    · obtain ⟨rfl, h⟩ := hget x blk hx
      exact (hS.sub k hk).2 ⟨_, blk, h, hz, e⟩
    · obtain ⟨rfl, h⟩ := hget x blk hx
      exact hS.none _ blk h hz
    · obtain ⟨rfl, hx2⟩ := hget x blk hx
      obtain ⟨cur, hcur⟩ := hS.blk _ blk hx2 hz
      have hn : NamelessL blk.cs := by
        have hbb : blkAt H x = some blk := by
          cases hbb0 : blkAt H x with
          | none =>
            rcases hd with ⟨off, n, cp, rfl⟩ | ⟨off, rfl⟩
            · simp only [sealD, hbb0] at h; cases h
            · simp only [sealD, hbb0] at h; cases h
          | some blk' =>
            have := blkAt_some hbb0
            rw [hx2] at this
            injection this with this; injection this with this; rw [this]
        rcases hd with ⟨off, n, cp, rfl⟩ | ⟨off, rfl⟩
        · simp only [sealD, hbb] at h
          cases cp <;> (simp only at h; obtain ⟨_, rfl⟩ := pair_inj h; exact hc.1)
        · simp only [sealD, hbb] at h
          obtain ⟨_, rfl⟩ := pair_inj h
          exact hc.1
      refine ⟨cur, hcur.heap, hcur.size, ?_, hcur.full⟩
      have key : ∀ (ds : List D) (us : List Value), NamelessL ds → RdL (ctx ρ S w H) ds us → RdL (ctx ρ S w Hb) ds us := by
        intro ds
        induction ds with
        | nil => intro us _ h; simpa only [RdL] using h
        | cons d ds ih =>
          intro us hn h
          simp only [NamelessL] at hn
          simp only [RdL] at h ⊢
          obtain ⟨u, r, e, ho, hd, hr⟩ := h
          exact ⟨u, r, e, ho, hd.move hn.1, ih r hn.2 hr⟩
      exact key _ _ hn hcur.pre
    · obtain ⟨rfl, _⟩ := hget x bx hx
      obtain ⟨rfl, _⟩ := hget y by_ hy
      rfl
  have hlive : ∀ x blk, Hb[x]? = some (some blk) → 0 < (ρ x).2 → reS keep ρ H S (ρ x).1 := fun x blk hx hz => by
    obtain ⟨rfl, h⟩ := hget x blk hx
    exact .inr ⟨_, blk, h, hb, hz, rfl⟩
  have hlen : b < Hb.length := by simp [Hb]
  have hr' : Rd (ctx ρ S w Hb) d u := by
    rcases hd with ⟨off, n, cp, rfl⟩ | ⟨off, rfl⟩
    · cases cp <;> simp only [Rd] at hr ⊢ <;> exact ⟨hlen, hr.2⟩
    · simp only [Rd] at hr ⊢; exact ⟨hlen, hr.2⟩
  have h' : sealD Hb d = some (e, c) := by
    rcases hd with ⟨off, n, cp, rfl⟩ | ⟨off, rfl⟩
    · rw [← h]; simp only [sealD, hblk]
    · rw [← h]; simp only [sealD, hblk]
  have hfin := sealD_rd (S' := reS keep ρ H S) (H' := []) hSb (fun k hk => .inl hk) hlive d e c u h' hc hr'
  have hnl : Nameless e := by
    rcases hd with ⟨off, n, cp, rfl⟩ | ⟨off, rfl⟩
    · simp only [sealD] at h
      split at h
      · cases cp <;> (simp only at h; obtain ⟨rfl, rfl⟩ := pair_inj h; simp only [Nameless]; exact (hc.1.drop _).take _)
      · cases h
    · simp only [sealD] at h
      split at h
      · obtain ⟨rfl, rfl⟩ := pair_inj h; simp only [Nameless]; exact hc.1
      · cases h
  exact hfin.move hnl
mutual
theorem viewD_rd (hS : St ρ S w H) (hn : nodupB keep = true) (hh : viewHeap H keep H2) : ∀ (d e : D) (c : Prop) (u : Value), viewD keep H d = some (e, c) → c → Rd (ctx ρ S w H) d u → Rd (ctx (reρ keep ρ) (reS keep ρ H S) w H2) e u
  | .v x, e, c, u, h, hc, hr => by simp only [viewD] at h; obtain ⟨rfl, rfl⟩ := pair_inj h; simpa [Rd] using hr
  | .ro n xs, e, c, u, h, hc, hr => by
    simp only [viewD] at h; obtain ⟨rfl, rfl⟩ := pair_inj h
    have hnl : NamelessL xs := by simp only [Rd] at hr; exact hr.1
    exact hr.moveS (fun k hk => .inl hk) (by simpa [Nameless] using hnl)
  | .rp xs j, e, c, u, h, hc, hr => by
    simp only [viewD] at h; obtain ⟨rfl, rfl⟩ := pair_inj h
    have hnl : NamelessL xs := by simp only [Rd] at hr; exact hr.1
    exact hr.moveS (fun k hk => .inl hk) (by simpa [Nameless] using hnl)
  | .sl b off n cp, e, c, u, h, hc, hr => by
    simp only [viewD] at h
    split at h
    · rename_i i hi
      obtain ⟨rfl, rfl⟩ := pair_inj h
      have hk := idxOf_some hi
      have hlt : i < H2.length := by rw [(viewHeap_get _ _ hh).1]; exact (List.getElem?_eq_some_iff.1 hk).1
      have hρ : reρ keep ρ i = ρ b := by simp only [reρ, hk]
      cases cp with
      | exact c0 es => simp only [Rd] at hr ⊢; rw [hρ]; exact ⟨hlt, hr.2⟩
      | toEnd es => simp only [Rd] at hr ⊢; rw [hρ]; exact ⟨hlt, hr.2⟩
    · rename_i hi
      exact seal_rd hS (idxOf_go_none keep 0 b hi) (.inl ⟨off, n, cp, rfl⟩) h hc hr
  | .ptr b off, e, c, u, h, hc, hr => by
    simp only [viewD] at h
    split at h
    · rename_i i hi
      obtain ⟨rfl, rfl⟩ := pair_inj h
      have hk := idxOf_some hi
      have hlt : i < H2.length := by rw [(viewHeap_get _ _ hh).1]; exact (List.getElem?_eq_some_iff.1 hk).1
      have hρ : reρ keep ρ i = ρ b := by simp only [reρ, hk]
      simp only [Rd] at hr ⊢; rw [hρ]; exact ⟨hlt, hr.2⟩
    · rename_i hi
      exact seal_rd hS (idxOf_go_none keep 0 b hi) (.inr ⟨off, rfl⟩) h hc hr
  | .agg xs, e, c, u, h, hc, hr => by
    simp only [viewD] at h
    split at h
    · rename_i ys c' hl
      obtain ⟨rfl, rfl⟩ := pair_inj h
      simp only [Rd] at hr ⊢
      obtain ⟨us, hu, hr⟩ := hr
      exact ⟨us, hu, viewL_rd hS hn hh xs ys _ us.toList hl hc hr⟩
    · cases h
  | .tup xs, e, c, u, h, hc, hr => by
    simp only [viewD] at h
    split at h
    · rename_i ys c' hl
      obtain ⟨rfl, rfl⟩ := pair_inj h
      simp only [Rd] at hr ⊢
      obtain ⟨us, hu, hr⟩ := hr
      exact ⟨us, hu, viewT_rd hS hn hh xs ys _ us.toList hl hc hr⟩
    · cases h
  | .ifc t d, e, c, u, h, hc, hr => by
    simp only [viewD] at h
    split at h
    · rename_i y c' hl
      obtain ⟨rfl, rfl⟩ := pair_inj h
      simp only [Rd] at hr ⊢
      obtain ⟨x, hu, hr⟩ := hr
      exact ⟨x, hu, viewD_rd hS hn hh d y _ x hl hc hr⟩
    · cases h
  | .fn f k caps, e, c, u, h, hc, hr => by
    simp only [viewD] at h
    split at h
    · rename_i ys c' hl
      obtain ⟨rfl, rfl⟩ := pair_inj h
      simp only [Rd] at hr ⊢
      obtain ⟨fs, us, hu, hk, hr⟩ := hr
      exact ⟨fs, us, hu, hk, viewT_rd hS hn hh caps ys _ _ hl hc hr⟩
    · cases h
theorem viewL_rd (hS : St ρ S w H) (hn : nodupB keep = true) (hh : viewHeap H keep H2) : ∀ (ds es : List D) (c : Prop) (us : List Value), viewL keep H ds = some (es, c) → c → RdL (ctx ρ S w H) ds us → RdL (ctx (reρ keep ρ) (reS keep ρ H S) w H2) es us
  | [], es, c, us, h, hc, hr => by simp only [viewL] at h; obtain ⟨rfl, rfl⟩ := pair_inj h; simpa [RdL] using hr
  | d :: ds, es, c, us, h, hc, hr => by
    simp only [viewL] at h
    split at h
    · rename_i e c1 es' c2 h1 h2
      obtain ⟨rfl, rfl⟩ := pair_inj h
      simp only [RdL] at hr ⊢
      obtain ⟨u, r, hu, ho, hd, hr⟩ := hr
      exact ⟨u, r, hu, ho, viewD_rd hS hn hh d e _ u h1 hc.1 hd, viewL_rd hS hn hh ds es' _ r h2 hc.2 hr⟩
    · cases h
theorem viewT_rd (hS : St ρ S w H) (hn : nodupB keep = true) (hh : viewHeap H keep H2) : ∀ (ds es : List D) (c : Prop) (us : List Value), viewL keep H ds = some (es, c) → c → RdT (ctx ρ S w H) ds us → RdT (ctx (reρ keep ρ) (reS keep ρ H S) w H2) es us
  | [], es, c, us, h, hc, hr => by simp only [viewL] at h; obtain ⟨rfl, rfl⟩ := pair_inj h; simpa [RdT] using hr
  | d :: ds, es, c, us, h, hc, hr => by
    simp only [viewL] at h
    split at h
    · rename_i e c1 es' c2 h1 h2
      obtain ⟨rfl, rfl⟩ := pair_inj h
      simp only [RdT] at hr ⊢
      obtain ⟨u, r, hu, hd, hr⟩ := hr
      exact ⟨u, r, hu, viewD_rd hS hn hh d e _ u h1 hc.1 hd, viewT_rd hS hn hh ds es' _ r h2 hc.2 hr⟩
    · cases h
end
theorem viewEnv_get {env : Env} : ∀ (env2 : Env), viewEnv keep H env env2 → ∀ t d2, env2.lookup t = some d2 → ∃ d, env.lookup t = some d ∧ viewOk keep H d d2
  | [], _, t, d2, h => by simp at h
  | (s, e) :: r, hv, t, d2, h => by
    simp only [viewEnv] at hv
    rw [List.lookup_cons] at h
    split at h
    · rename_i ht
      have ht : t = s := by simpa using ht
      injection h with h; subst h; subst ht
      have h1 := hv.1
      split at h1
      · rename_i d hd; exact ⟨d, hd, h1⟩
      · exact h1.elim
    · exact viewEnv_get r hv.2 t d2 h
theorem view_of {nt : Nat} {env env2 : Env} (h : viewAll keep env H env2 H2) : View nt env H env2 H2 := by
  obtain ⟨hn, hh, he⟩ := h
  intro ρ S w a hi
  refine ⟨reρ keep ρ, reS keep ρ H S, ⟨view_st hi.st hn hh, fun t d2 ht => ?_, hi.size, hi.defers⟩, view_lem hi.st hh⟩
  obtain ⟨d, hd, hok⟩ := viewEnv_get env2 he t d2 ht
  have hr := hi.env t d hd
  unfold viewOk at hok
  cases hnil : isNilSl d d2 with
  | false =>
    rw [hnil] at hok
    simp only [cond_false] at hok
    split at hok
    · rename_i e c hv
      obtain ⟨hc, rfl⟩ := hok
      exact viewD_rd hi.st hn hh d e c _ hv hc hr
    · exact hok.elim
  | true =>
    rw [hnil] at hok
    simp only [cond_true] at hok
    unfold isNilSl at hnil
    split at hnil
    · rename_i i es
      simp only [nilOk] at hok
      split at hok
      · rename_i hk
        simp only [Rd] at hr ⊢
        have hlt : i < H2.length := by rw [(viewHeap_get _ _ hh).1]; exact (List.getElem?_eq_some_iff.1 hk).1
        refine ⟨hlt, none, 0, hr, Nat.le_refl _, Nat.zero_le _, ?_, fun h => absurd h (by omega)⟩
        simp [reρ, hk]
      · exact hok.elim
    · cases hnil
end
def LRuleP (P : Program) (nt : Nat) (c : Code) (L : LoopO) : Prop := ∀ env H Q, L env H Q → DWP P nt (.loop c) Q env H
def LpAllP (P : Program) (nt : Nat) (lp : Nat → Option LoopO) : List Code → Prop
  | [] => True
  | c :: r => (match lp (firstReg c) with
    | some L => LRuleP P nt c L
    | none => True) ∧ LpAllP P nt lp r
theorem LpAllP.app {P : Program} {nt : Nat} {lp : Nat → Option LoopO} : ∀ {l r : List Code}, LpAllP P nt lp (l ++ r) → LpAllP P nt lp l ∧ LpAllP P nt lp r
  | [], r, h => ⟨trivial, h⟩
  | c :: l, r, h => by
    simp only [List.cons_append, LpAllP] at h ⊢
    exact ⟨⟨h.1, h.2.app.1⟩, h.2.app.2⟩
theorem LpAllP.none {P : Program} {nt : Nat} : ∀ (l : List Code), LpAllP P nt (fun _ => none) l
  | [] => trivial
  | c :: l => ⟨trivial, LpAllP.none l⟩
section
variable {P : Program} {T : Tbl} (hT : TblOk P T) {nt N : Nat} {call : CallO} {lp : Nat → Option LoopO}
theorem View.refl {nt : Nat} (env : Env) (H : Heap) : View nt env H env H := fun ρ S w a hi => ⟨ρ, S, hi, Ctx.lem.refl _⟩
theorem View.has {nt : Nat} {env env2 : Env} {H : Heap} (h : Has env env2) : View nt env H env2 H := fun ρ S w a hi => ⟨ρ, S, hi.sub h, Ctx.lem.refl _⟩
theorem xLoop_okP {c : Code} {body : (Exit → Env → Heap → Prop) → Env → Heap → Prop} (hb : ∀ Q env H, body Q env H → DWP P nt c Q env H) {n : Nat} {Q : Exit → Env → Heap → Prop} {env : Env} {H : Heap} (h : xLoop body n Q (prune [] env) H) : DWP P nt (.loop c) Q env H := by
  refine DWP.view (View.has (has_prune env)) ?_
  refine DWP.loop (fun x : Nat × Env × Heap => xLoop body x.1 Q x.2.1 x.2.2) (fun x => x.2.1) (fun x => x.2.2) (fun x => x.1) (n, prune [] env, H) h ?_
  rintro ⟨m, en, hp⟩ hx
  simp only at hx ⊢
  cases m with
  | zero => exact hx.elim
  | succ m =>
    refine (hb _ _ _ hx).mono fun e env' H' hh => ?_
    cases e with
    | normal => exact ⟨(m, prune [] env', H'), by simp, hh, View.has (has_prune env')⟩
    | _ => exact hh
include hT
theorem vcp_sound (hm : P.follows .mixedOrders = true) (hc : CallOK P call) : ∀ (c : Code) (Q : Exit → Env → Heap → Prop) (env : Env) (H : Heap), codeOk nt c = true → LpAllP P nt lp (loopsOf c) → vcx P call lp T N c Q env H → DWP P nt c Q env H
  | .skip, Q, env, H, hok, _, h => (vcg_sound hT hm .skip Q env H hok h).dwp
  | .region id ops draw, Q, env, H, hok, _, h => by
    refine (vcx_sound (lp := fun _ => none) (N := N) hT hm hc (.region id ops draw) Q env H hok (LpAll.none _) h).dwp
  | .seq a b, Q, env, H, hok, hl, h => by
    simp only [codeOk, Bool.and_eq_true] at hok
    obtain ⟨hl1, hl2⟩ := LpAllP.app hl
    intro ρ S w ac hi
    refine wp_seq (wp_mono (vcp_sound hm hc a _ env H hok.1 hl1 h ρ S w ac hi) fun e a' w' ⟨env', H', ρ', S', h1, h2, h3⟩ => ?_)
    cases e with
    | normal =>
      refine wp_mono (vcp_sound hm hc b Q env' H' hok.2 hl2 h1 ρ' S' w' a' h2) fun e a'' w'' ⟨env'', H'', ρ'', S'', h4, h5, h6⟩ => ?_
      exact ⟨env'', H'', ρ'', S'', h4, h5, h3.trans h6⟩
    | _ => exact ⟨env', H', ρ', S', h1, h2, h3⟩
  | .cond c x y, Q, env, H, hok, hl, h => by
    simp only [codeOk, Bool.and_eq_true] at hok
    obtain ⟨hl1, hl2⟩ := LpAllP.app hl
    intro ρ S w ac hi
    simp only [vcx] at h
    split at h
    · rename_i b hb
      have hv := get_rd hi.st.glob hi.env c _ hb
      simp only [Rd] at hv
      obtain ⟨h1, h2⟩ := cond_prop h
      cases b with
      | true => exact wp_cond hv (vcp_sound hm hc x Q env H hok.1 hl1 (h1 rfl) ρ S w ac hi)
      | false => exact wp_cond hv (vcp_sound hm hc y Q env H hok.2 hl2 (h2 rfl) ρ S w ac hi)
    · exact h.elim
  | .block id c, Q, env, H, hok, hl, h => by
    simp only [codeOk] at hok
    intro ρ S w ac hi
    refine wp_block (wp_mono (vcp_sound hm hc c _ env H hok hl h ρ S w ac hi) fun e a' w' ⟨env', H', ρ', S', h1, h2, h3⟩ => ?_)
    cases e with
    | exit id' =>
      simp only [blockQ] at h1
      simp only [Exit.inBlock]
      split
      · rename_i he; rw [if_pos he] at h1; exact ⟨env', H', ρ', S', h1, h2, h3⟩
      · rename_i he; rw [if_neg he] at h1; exact ⟨env', H', ρ', S', h1, h2, h3⟩
    | _ => exact ⟨env', H', ρ', S', h1, h2, h3⟩
  | .exit id, Q, env, H, hok, _, h => (vcg_sound hT hm (.exit id) Q env H hok h).dwp
  | .ret, Q, env, H, hok, _, h => (vcg_sound hT hm .ret Q env H hok h).dwp
  | .label l, Q, env, H, hok, _, h => (vcg_sound hT hm (.label l) Q env H hok h).dwp
  | .goto l, Q, env, H, hok, _, h => (vcg_sound hT hm (.goto l) Q env H hok h).dwp
  | .refuse _, _, _, _, _, _, h => h.elim
  | .scope c, Q, env, H, hok, hl, h => by
    simp only [codeOk] at hok
    intro ρ S w ac hi
    refine wp_scope_straight (wp_mono (vcp_sound hm hc c _ env H hok hl h ρ S w ac hi) fun e a' w' ⟨env', H', ρ', S', h1, h2, h3⟩ => ?_)
    cases e with
    | goto l => exact h1.elim
    | _ => exact ⟨env', H', ρ', S', h1, h2, h3⟩
  | .rangeFunc .., Q, env, H, _, _, h => h.elim
  | .loop c, Q, env, H, hok, hl, h => by
    simp only [codeOk] at hok
    simp only [loopsOf, LpAllP] at hl
    simp only [vcx] at h
    cases hlp : lp (firstReg c) with
    | some L =>
      simp only [hlp] at h hl
      exact hl.1 env H Q h
    | none =>
      simp only [hlp] at h
      exact xLoop_okP (fun Q env H hh => vcp_sound hm hc c Q env H hok hl.2 hh) h
theorem pureJ_of_vcp (hm : P.follows .mixedOrders = true) (hc : CallOK P call) {f : FuncId} {fn : Func} {c : Code} {ds : List D} {d : D} (hf : P.funcs[f]? = some fn) (hb : fn.body = some c)
    (hname : (fn.name == "runtime.NumGoroutine") = false) (hok : codeOk fn.ntmps c = true) (hlen : decide (ds.length ≤ fn.ntmps) = true) (hl : LpAllP P fn.ntmps lp (loopsOf c)) (h1 : NamelessL ds) (h2 : Nameless d)
    (h : vcx P call lp T N c (retQ T fn.results.toList fun d1 H1 => SealTo H1 d1 d) (envOf 0 ds) []) : PureJ P f ds d := by
  refine PureJ.of_nil h1 h2 (callJ_of_dw hT hf hb hname (by simpa using hlen) ?_)
  intro ρ S w a hi
  refine wp_mono (vcp_sound hT hm hc c _ _ _ hok hl h ρ S w a hi) fun e a' w' ⟨env', H', ρ', S', g1, g2, g3⟩ => ?_
  have nl : ∀ ρ k, ¬ Live ρ [] k := fun ρ k ⟨b, blk, hb, _⟩ => by simp at hb
  refine ⟨env', H', ρ', S', ?_, g2, ⟨by simp, fun b hb => by simp at hb, g3.S, g3.keep, g3.new, g3.fix, g3.heap, g3.size, g3.os, g3.tape, g3.output⟩⟩
  cases e <;> simp only [retQ] at g1 ⊢
  all_goals first
    | exact g1.elim
    | (split at g1
       · exact ⟨g1.1, fin_seal g1.2⟩
       · exact g1.elim)
def loopRule {α β : Type} (kp : List (Option Nat)) (J : α → Prop) (I : α → Env) (HI : α → Heap) (x0 : α) (R : β → Prop) (E : β → Exit × Env × Heap) : LoopO :=
  fun env H Q => J x0 ∧ viewAll kp env H (I x0) (HI x0) ∧ ∀ r, R r → Q (E r).1 (E r).2.1 (E r).2.2
def selEnv : Env → Env → Env
  | [], _ => []
  | (t, _) :: r, env => match env.lookup t with
    | some d => (t, d) :: selEnv r env
    | none => selEnv r env
omit hT in
theorem has_sel {env : Env} : ∀ (like : Env), Has env (selEnv like env)
  | [] => trivial
  | (t, d0) :: r => by
    simp only [selEnv]
    split
    · rename_i d hd; exact ⟨hd, has_sel r⟩
    · exact has_sel r
omit hT in
theorem View.trans {nt : Nat} {e1 e2 e3 : Env} {H1 H2 H3 : Heap} (v : View nt e1 H1 e2 H2) (u : View nt e2 H2 e3 H3) : View nt e1 H1 e3 H3 := by
  intro ρ S w a hi
  obtain ⟨ρ', S', hi', hle⟩ := v ρ S w a hi
  obtain ⟨ρ'', S'', hi'', hle'⟩ := u ρ' S' w a hi'
  exact ⟨ρ'', S'', hi'', hle.trans hle'⟩
def roundQ {α β : Type} (J : α → Prop) (I : α → Env) (HI : α → Heap) (μ : α → Nat) (R : β → Prop) (E : β → Exit × Env × Heap) (x : α) : Exit → Env → Heap → Prop
  | .normal, env', H' => ∃ (y : α) (kp : List (Option Nat)), μ y < μ x ∧ J y ∧ viewAll kp (selEnv (I y) env') H' (I y) (HI y)
  | e, env', H' => ∃ (r : β) (kp : List (Option Nat)), R r ∧ e = (E r).1 ∧ viewAll kp (selEnv (E r).2.1 env') H' (E r).2.1 (E r).2.2
theorem lrule_of (hm : P.follows .mixedOrders = true) (hc : CallOK P call) {α β : Type} {kp : List (Option Nat)} {J : α → Prop} {I : α → Env} {HI : α → Heap} (μ : α → Nat) {x0 : α} {R : β → Prop} {E : β → Exit × Env × Heap} {c : Code}
    (hok : codeOk nt c = true) (hl : LpAllP P nt lp (loopsOf c)) (round : ∀ x, J x → vcx P call lp T N c (roundQ J I HI μ R E x) (I x) (HI x)) : LRuleP P nt c (loopRule kp J I HI x0 R E) := by
  rintro env H Q ⟨h0, hv, hq⟩
  refine DWP.view (view_of hv) ?_
  refine DWP.loop J I HI μ x0 h0 fun x hx => DWP.post ((vcp_sound hT hm hc c _ _ _ hok hl (round x hx)).mono fun e env' H' h => ?_)
  cases e with
  | normal =>
    obtain ⟨y, k, h1, h2, h3⟩ := h
    exact ⟨env', H', View.refl _ _, y, h1, h2, (View.has (has_sel _)).trans (view_of h3)⟩
  | _ =>
    obtain ⟨r, k, h1, h2, h3⟩ := h
    refine ⟨_, _, (View.has (has_sel _)).trans (view_of h3), ?_⟩
    have := hq r h1
    rw [← h2] at this
    exact this
end
def loopRule2 {α β γ : Type} (kp : List (Option Nat)) (J : α → Prop) (I : α → Env) (HI : α → Heap) (x0 : α) (R : β → Prop) (E : β → Exit × Env × Heap) (R' : γ → Prop) (E' : γ → Exit × Env × Heap) : LoopO :=
  fun env H Q => J x0 ∧ viewAll kp env H (I x0) (HI x0) ∧ (∀ r, R r → Q (E r).1 (E r).2.1 (E r).2.2) ∧ ∀ r, R' r → Q (E' r).1 (E' r).2.1 (E' r).2.2
def roundQ2 {α β γ : Type} (J : α → Prop) (I : α → Env) (HI : α → Heap) (μ : α → Nat) (R : β → Prop) (E : β → Exit × Env × Heap) (R' : γ → Prop) (E' : γ → Exit × Env × Heap) (x : α) : Exit → Env → Heap → Prop
  | .normal, env', H' => ∃ (y : α) (kp : List (Option Nat)), μ y < μ x ∧ J y ∧ viewAll kp (selEnv (I y) env') H' (I y) (HI y)
  | e, env', H' => (∃ (r : β) (kp : List (Option Nat)), R r ∧ e = (E r).1 ∧ viewAll kp (selEnv (E r).2.1 env') H' (E r).2.1 (E r).2.2) ∨ ∃ (r : γ) (kp : List (Option Nat)), R' r ∧ e = (E' r).1 ∧ viewAll kp (selEnv (E' r).2.1 env') H' (E' r).2.1 (E' r).2.2
theorem lrule_of2 {P : Program} {T : Tbl} (hT : TblOk P T) {nt N : Nat} {call : CallO} {lp : Nat → Option LoopO} (hm : P.follows .mixedOrders = true) (hc : CallOK P call) {α β γ : Type} {kp : List (Option Nat)} {J : α → Prop} {I : α → Env} {HI : α → Heap} (μ : α → Nat) {x0 : α} {R : β → Prop} {E : β → Exit × Env × Heap} {R' : γ → Prop} {E' : γ → Exit × Env × Heap} {c : Code}
    (hok : codeOk nt c = true) (hl : LpAllP P nt lp (loopsOf c)) (round : ∀ x, J x → vcx P call lp T N c (roundQ2 J I HI μ R E R' E' x) (I x) (HI x)) : LRuleP P nt c (loopRule2 kp J I HI x0 R E R' E') := by
  rintro env H Q ⟨h0, hv, hq, hq'⟩
  refine DWP.view (view_of hv) ?_
  refine DWP.loop J I HI μ x0 h0 fun x hx => DWP.post ((vcp_sound hT hm hc c _ _ _ hok hl (round x hx)).mono fun e env' H' h => ?_)
  cases e with
  | normal =>
    obtain ⟨y, k, h1, h2, h3⟩ := h
    exact ⟨env', H', View.refl _ _, y, h1, h2, (View.has (has_sel _)).trans (view_of h3)⟩
  | _ =>
    rcases h with ⟨r, k, h1, h2, h3⟩ | ⟨r, k, h1, h2, h3⟩
    · refine ⟨_, _, (View.has (has_sel _)).trans (view_of h3), ?_⟩
      have := hq r h1
      rw [← h2] at this
      exact this
    · refine ⟨_, _, (View.has (has_sel _)).trans (view_of h3), ?_⟩
      have := hq' r h1
      rw [← h2] at this
      exact this
def loopAt (c : Code) (k : Nat) : Code := ((loopsOf c).find? fun b => Nat.beq (firstReg b) k).getD .skip
end Go.VD
end
section
namespace Go.VD
set_option linter.unusedVariables false
set_option linter.unusedSimpArgs false
theorem RdL.moveN {ρ ρ' : Nat → Nat × Nat} {S : Nat → Prop} {w : World} {H H' : Heap} {ds : List D} {us : List Value} (hn : NamelessL ds) (h : RdL (ctx ρ S w H) ds us) : RdL (ctx ρ' S w H') ds us :=
  RdL.nameless (E := ctx ρ S w H) (E' := ctx ρ' S w H') (fun _ h => h) (fun _ _ => rfl) ds us hn h
theorem CallJ.frameAt {P : Program} {f : FuncId} {off n : Nat} {c : Cap} {plain : List D} {blk blk' : Blk} {d : D} (h : CallJ P f (.sl 0 off n c :: plain) [some blk] d [some blk']) (hpl : NamelessL plain) (hd : Nameless d) (hc : NamelessL blk.cs) (hc' : NamelessL blk'.cs)
    {H : Heap} {b : Nat} (hb : H[b]? = some (some blk)) : CallJ P f (.sl b off n c :: plain) H d (H.set b (some blk')) := by
  have hbl : b < H.length := (List.getElem?_eq_some_iff.1 hb).1
  refine ⟨h.1, fun ρ S w vals hS hv => ?_⟩
  have live1 : ∀ k, Live (fun _ => ρ b) [some blk] k → 0 < (ρ b).2 ∧ (ρ b).1 = k := by
    rintro k ⟨i, bl, hi, hz, e⟩
    exact ⟨hz, e⟩
  have live1H : ∀ k, Live (fun _ => ρ b) [some blk] k → Live ρ H k := fun k hk => ⟨b, blk, hb, (live1 k hk).1, (live1 k hk).2⟩
  have hS1 : St (fun _ => ρ b) S w [some blk] := by
    refine ⟨fun k hk => ⟨(hS.sub k hk).1, fun hl => (hS.sub k hk).2 (live1H k hl)⟩, fun i bl hi hz => ?_, fun i bl hi hz => ?_, fun i j bi bj hi hj _ _ _ => ?_, hS.glob⟩
    · cases i with
      | zero => simp at hi; subst hi; exact hS.none b _ hb hz
      | succ i => simp at hi
    · cases i with
      | zero =>
        simp at hi; subst hi
        obtain ⟨cur, hcur⟩ := hS.blk b _ hb hz
        exact ⟨cur, hcur.heap, hcur.size, RdL.moveN hc hcur.pre, hcur.full⟩
      | succ i => simp at hi
    · cases i with
      | zero => cases j with
        | zero => rfl
        | succ j => simp at hj
      | succ i => simp at hi
  have hv1 : RdT (ctx (fun _ => ρ b) S w [some blk]) (.sl 0 off n c :: plain) vals := by
    simp only [RdT] at hv ⊢
    obtain ⟨u, r, e, h1, h2⟩ := hv
    refine ⟨u, r, e, ?_, RdT.move hpl h2⟩
    cases c <;> simp only [Rd] at h1 ⊢ <;> exact ⟨by simp, h1.2⟩
  refine (h.2 _ S w vals hS1 hv1).mono fun e w' ⟨v, ρ', S', he, hS', hle, hr⟩ => ?_
  have e0 : ρ' 0 = ρ b := hle.ρ 0 (by simp)
  have live' : ∀ k, Live ρ (H.set b (some blk')) k → (0 < (ρ b).2 ∧ (ρ b).1 = k) ∨ ∃ i bl, i ≠ b ∧ H[i]? = some (some bl) ∧ 0 < (ρ i).2 ∧ (ρ i).1 = k := by
    rintro k ⟨i, bl, hi, hz, e⟩
    by_cases hib : b = i
    · subst hib; exact .inl ⟨hz, e⟩
    · rw [List.getElem?_set_ne hib] at hi
      exact .inr ⟨i, bl, fun e => hib e.symm, hi, hz, e⟩
  have live2 : ∀ k, (0 < (ρ b).2 ∧ (ρ b).1 = k) → Live ρ' [some blk'] k := fun k hk => ⟨0, blk', by simp, by rw [e0]; exact hk.1, by rw [e0]; exact hk.2⟩
  have hle2 : (ctx ρ S w H).le (ctx ρ S' w' (H.set b (some blk'))) := by
    refine ⟨by simp, fun _ _ => rfl, hle.S, hle.keep, fun k hk => ?_, fun k hk => ⟨Nat.lt_of_lt_of_le hk.1 hle.size, fun hl => ?_⟩, fun k hk => hle.heap k ⟨hk.1, fun hl => hk.2 (live1H k hl)⟩, hle.size, hle.os, hle.tape, hle.output⟩
    · rcases hle.new k hk with h | h | h
      · exact .inl h
      · exact .inr (.inl (live1H k h))
      · exact .inr (.inr h)
    · rcases live' k hl with h | ⟨i, bl, _, hi, hz, e⟩
      · exact hk.2 ⟨b, blk, hb, h.1, h.2⟩
      · exact hk.2 ⟨i, bl, hi, hz, e⟩
  refine ⟨v, ρ, S', he, ⟨fun k hk => ⟨(hS'.sub k hk).1, fun hl => ?_⟩, fun i bl hi hz => ?_, fun i bl hi hz => ?_, fun i j bi bj hi hj hz hz' e => ?_, hS'.glob⟩, hle2, Rd.move hd hr⟩
  · rcases live' k hl with h | ⟨i, bl, hib, hi, hz, e⟩
    · exact (hS'.sub k hk).2 (live2 k h)
    · rcases hle.new k hk with h | h | h
      · exact (hS.sub k h).2 ⟨i, bl, hi, hz, e⟩
      · obtain ⟨hz1, e1⟩ := live1 k h
        exact hib (hS.inj i b _ _ hi hb hz hz1 (e.trans e1.symm))
      · have := hS.lt ⟨i, bl, hi, hz, e⟩; simp only [ctx] at *; omega
  · by_cases hib : b = i
    · subst hib
      rw [List.getElem?_set_self hbl] at hi
      injection hi with hi; injection hi with hi; subst hi
      exact hS'.none 0 blk' (by simp) (by rw [e0]; exact hz)
    · rw [List.getElem?_set_ne hib] at hi; exact hS.none i bl hi hz
  · by_cases hib : b = i
    · subst hib
      rw [List.getElem?_set_self hbl] at hi
      injection hi with hi; injection hi with hi; subst hi
      obtain ⟨cur, hcur⟩ := hS'.blk 0 blk' (by simp) (by rw [e0]; exact hz)
      have hh := hcur.heap
      have hs := hcur.size
      rw [e0] at hh hs
      exact ⟨cur, hh, hs, RdL.moveN hc' hcur.pre, hcur.full⟩
    · rw [List.getElem?_set_ne hib] at hi
      obtain ⟨cur, hcur⟩ := hS.blk i bl hi hz
      refine ⟨cur, hcur.heap.of (hle.heap _ ⟨hcur.lt, fun hl => ?_⟩), hcur.size, hcur.pre.mono hle2 _ _, hcur.full⟩
      obtain ⟨hz1, e1⟩ := live1 _ hl
      exact hib (hS.inj b i _ _ hb hi hz1 hz e1)
  · have back : ∀ i bi, (H.set b (some blk'))[i]? = some (some bi) → ∃ bl, H[i]? = some (some bl) := fun i bi hi => by
      by_cases hib : b = i
      · subst hib; exact ⟨blk, hb⟩
      · rw [List.getElem?_set_ne hib] at hi; exact ⟨bi, hi⟩
    obtain ⟨x, hx⟩ := back i bi hi
    obtain ⟨y, hy⟩ := back j bj hj
    exact hS.inj i j x y hx hy hz hz' e
abbrev EntM := Nat → Nat → Cap → List D → Blk → Option (D × Blk × Prop)
structure MutJ (P : Program) (g : FuncId) (off n : Nat) (c : Cap) (plain : List D) (blk : Blk) (d : D) (blk' : Blk) : Prop where
  call : CallJ P g (.sl 0 off n c :: plain) [some blk] d [some blk']
  plain : NamelessL plain
  res : Nameless d
  cs : NamelessL blk.cs
  cs' : NamelessL blk'.cs
def EntMOk (P : Program) (g : FuncId) (e : EntM) : Prop := ∀ off n c plain blk d blk' p, e off n c plain blk = some (d, blk', p) → p → MutJ P g off n c plain blk d blk'
def addMut (f : FuncId) (e : EntM) (r : CallO) : CallO := fun g ds H K => bif Nat.beq g f then (match ds with
  | .sl b off n c :: plain => match blkAt H b with
    | some blk => match e off n c plain blk with
      | some (d, blk', p) => some (p ∧ K d (H.set b (some blk')) .al)
      | none => none
    | none => none
  | _ => none) else r g ds H K
theorem addMut_ok {P : Program} {f : FuncId} {e : EntM} {r : CallO} (he : EntMOk P f e) (hr : CallOK P r) : CallOK P (addMut f e r) := by
  intro g ds H K p h hp
  unfold addMut at h
  cases hg : Nat.beq g f with
  | false => rw [hg] at h; exact hr g ds H K p h hp
  | true =>
    rw [hg] at h
    have hgf : g = f := Nat.eq_of_beq_eq_true hg
    subst hgf
    simp only [cond_true] at h
    split at h
    · rename_i b off n c plain
      split at h
      · rename_i blk hblk
        split at h
        · rename_i d blk' q hq
          injection h with h; subst h
          have hm := he _ _ _ _ _ _ _ _ hq hp.1
          exact .own d _ (hm.call.frameAt hm.plain hm.res hm.cs hm.cs' (blkAt_some hblk)) hp.2
        · cases h
      · cases h
    · cases h
def loopRuleD {α β : Type} (J : α → Prop) (I : α → Env) (HI : α → Heap) (x0 : α) (R : β → Prop) (E : β → Exit × Env × Heap) : LoopO :=
  fun env H Q => J x0 ∧ Has env (I x0) ∧ H = HI x0 ∧ ∀ r, R r → Q (E r).1 (E r).2.1 (E r).2.2
def roundQD {α β : Type} (J : α → Prop) (I : α → Env) (HI : α → Heap) (μ : α → Nat) (R : β → Prop) (E : β → Exit × Env × Heap) (x : α) : Exit → Env → Heap → Prop
  | .normal, env', H' => ∃ y : α, μ y < μ x ∧ J y ∧ Has env' (I y) ∧ H' = HI y
  | e, env', H' => ∃ r : β, R r ∧ e = (E r).1 ∧ Has env' (E r).2.1 ∧ H' = (E r).2.2
theorem lruleD_of {P : Program} {T : Tbl} (hT : TblOk P T) {nt N : Nat} {call : CallO} {lp : Nat → Option LoopO} (hm : P.follows .mixedOrders = true) (hc : CallOK P call) {α β : Type} {J : α → Prop} {I : α → Env} {HI : α → Heap} (μ : α → Nat) {x0 : α} {R : β → Prop} {E : β → Exit × Env × Heap} {c : Code}
    (hok : codeOk nt c = true) (hl : LpAll P nt lp (loopsOf c)) (round : ∀ x, J x → vcx P call lp T N c (roundQD J I HI μ R E x) (I x) (HI x)) : LRule P nt c (loopRuleD J I HI x0 R E) := by
  rintro env H Q ⟨h0, hh, hH, hq⟩
  refine DW.loop J I HI μ x0 h0 hh hH fun x hx => ?_
  intro ρ S w a hi
  refine wp_mono (vcx_sound hT hm hc c _ _ _ hok hl (round x hx) ρ S w a hi) fun e a' w' ⟨env', H', ρ', S', h1, h2, h3⟩ => ?_
  cases e with
  | normal => exact ⟨env', H', ρ', S', h1, h2, h3⟩
  | _ =>
    obtain ⟨r, g1, g2, g3, g4⟩ := h1
    refine ⟨(E r).2.1, (E r).2.2, ρ', S', ?_, by rw [← g4]; exact h2.sub g3, by rw [← g4]; exact h3⟩
    have := hq r g1
    rw [← g2] at this
    exact this
theorem mutJ_of_vcx {P : Program} {T : Tbl} (hT : TblOk P T) {N : Nat} {call : CallO} {lp : Nat → Option LoopO} (hm : P.follows .mixedOrders = true) (hc : CallOK P call) {f : FuncId} {fn : Func} {c : Code} {off n : Nat} {cp : Cap} {plain : List D} {blk blk' : Blk} {d : D} (hf : P.funcs[f]? = some fn) (hb : fn.body = some c)
    (hname : (fn.name == "runtime.NumGoroutine") = false) (hok : codeOk fn.ntmps c = true) (hlen : decide ((.sl 0 off n cp :: plain).length ≤ fn.ntmps) = true) (hl : LpAll P fn.ntmps lp (loopsOf c)) (h1 : NamelessL plain) (h2 : Nameless d) (h3 : NamelessL blk.cs) (h4 : NamelessL blk'.cs)
    (h : vcx P call lp T N c (retQ T fn.results.toList fun d1 H1 => d1 = d ∧ H1 = [some blk']) (envOf 0 (.sl 0 off n cp :: plain)) [some blk]) : MutJ P f off n cp plain blk d blk' := by
  refine ⟨callJ_of_dw hT hf hb hname (by simpa using hlen) ((vcx_sound hT hm hc c _ _ _ hok hl h).mono fun e env H h => ?_), h1, h2, h3, h4⟩
  cases e <;> simp only [retQ] at h ⊢
  all_goals first
    | exact h.elim
    | (split at h
       · obtain ⟨g1, rfl, rfl⟩ := h
         exact ⟨g1, fin_same⟩
       · exact h.elim)
end Go.VD
end
section
namespace Go.VD
set_option linter.unusedVariables false
set_option linter.unusedSimpArgs false
theorem CallJ.frameAtS {P : Program} {f : FuncId} {off n : Nat} {c : Cap} {plain : List D} {blk blk' : Blk} {o m : Nat} {c2 : Cap} (h : CallJ P f (.sl 0 off n c :: plain) [some blk] (.sl 0 o m c2) [some blk']) (hpl : NamelessL plain) (hc : NamelessL blk.cs) (hc' : NamelessL blk'.cs)
    {H : Heap} {b : Nat} (hb : H[b]? = some (some blk)) : CallJ P f (.sl b off n c :: plain) H (.sl b o m c2) (H.set b (some blk')) := by
  have hbl : b < H.length := (List.getElem?_eq_some_iff.1 hb).1
  refine ⟨h.1, fun ρ S w vals hS hv => ?_⟩
  have live1 : ∀ k, Live (fun _ => ρ b) [some blk] k → 0 < (ρ b).2 ∧ (ρ b).1 = k := by
    rintro k ⟨i, bl, hi, hz, e⟩
    exact ⟨hz, e⟩
  have live1H : ∀ k, Live (fun _ => ρ b) [some blk] k → Live ρ H k := fun k hk => ⟨b, blk, hb, (live1 k hk).1, (live1 k hk).2⟩
  have hS1 : St (fun _ => ρ b) S w [some blk] := by
    refine ⟨fun k hk => ⟨(hS.sub k hk).1, fun hl => (hS.sub k hk).2 (live1H k hl)⟩, fun i bl hi hz => ?_, fun i bl hi hz => ?_, fun i j bi bj hi hj _ _ _ => ?_, hS.glob⟩
    · cases i with
      | zero => simp at hi; subst hi; exact hS.none b _ hb hz
      | succ i => simp at hi
    · cases i with
      | zero =>
        simp at hi; subst hi
        obtain ⟨cur, hcur⟩ := hS.blk b _ hb hz
        exact ⟨cur, hcur.heap, hcur.size, RdL.moveN hc hcur.pre, hcur.full⟩
      | succ i => simp at hi
    · cases i with
      | zero => cases j with
        | zero => rfl
        | succ j => simp at hj
      | succ i => simp at hi
  have hv1 : RdT (ctx (fun _ => ρ b) S w [some blk]) (.sl 0 off n c :: plain) vals := by
    simp only [RdT] at hv ⊢
    obtain ⟨u, r, e, h1, h2⟩ := hv
    refine ⟨u, r, e, ?_, RdT.move hpl h2⟩
    cases c <;> simp only [Rd] at h1 ⊢ <;> exact ⟨by simp, h1.2⟩
  refine (h.2 _ S w vals hS1 hv1).mono fun e w' ⟨v, ρ', S', he, hS', hle, hr⟩ => ?_
  have e0 : ρ' 0 = ρ b := hle.ρ 0 (by simp)
  have live' : ∀ k, Live ρ (H.set b (some blk')) k → (0 < (ρ b).2 ∧ (ρ b).1 = k) ∨ ∃ i bl, i ≠ b ∧ H[i]? = some (some bl) ∧ 0 < (ρ i).2 ∧ (ρ i).1 = k := by
    rintro k ⟨i, bl, hi, hz, e⟩
    by_cases hib : b = i
    · subst hib; exact .inl ⟨hz, e⟩
    · rw [List.getElem?_set_ne hib] at hi
      exact .inr ⟨i, bl, fun e => hib e.symm, hi, hz, e⟩
  have live2 : ∀ k, (0 < (ρ b).2 ∧ (ρ b).1 = k) → Live ρ' [some blk'] k := fun k hk => ⟨0, blk', by simp, by rw [e0]; exact hk.1, by rw [e0]; exact hk.2⟩
  have hle2 : (ctx ρ S w H).le (ctx ρ S' w' (H.set b (some blk'))) := by
    refine ⟨by simp, fun _ _ => rfl, hle.S, hle.keep, fun k hk => ?_, fun k hk => ⟨Nat.lt_of_lt_of_le hk.1 hle.size, fun hl => ?_⟩, fun k hk => hle.heap k ⟨hk.1, fun hl => hk.2 (live1H k hl)⟩, hle.size, hle.os, hle.tape, hle.output⟩
    · rcases hle.new k hk with h | h | h
      · exact .inl h
      · exact .inr (.inl (live1H k h))
      · exact .inr (.inr h)
    · rcases live' k hl with h | ⟨i, bl, _, hi, hz, e⟩
      · exact hk.2 ⟨b, blk, hb, h.1, h.2⟩
      · exact hk.2 ⟨i, bl, hi, hz, e⟩
  refine ⟨v, ρ, S', he, ⟨fun k hk => ⟨(hS'.sub k hk).1, fun hl => ?_⟩, fun i bl hi hz => ?_, fun i bl hi hz => ?_, fun i j bi bj hi hj hz hz' e => ?_, hS'.glob⟩, hle2, by
    cases c2 <;> simp only [Rd] at hr ⊢ <;> rw [e0] at hr <;> exact ⟨by simpa using hbl, hr.2⟩⟩
  · rcases live' k hl with h | ⟨i, bl, hib, hi, hz, e⟩
    · exact (hS'.sub k hk).2 (live2 k h)
    · rcases hle.new k hk with h | h | h
      · exact (hS.sub k h).2 ⟨i, bl, hi, hz, e⟩
      · obtain ⟨hz1, e1⟩ := live1 k h
        exact hib (hS.inj i b _ _ hi hb hz hz1 (e.trans e1.symm))
      · have := hS.lt ⟨i, bl, hi, hz, e⟩; simp only [ctx] at *; omega
  · by_cases hib : b = i
    · subst hib
      rw [List.getElem?_set_self hbl] at hi
      injection hi with hi; injection hi with hi; subst hi
      exact hS'.none 0 blk' (by simp) (by rw [e0]; exact hz)
    · rw [List.getElem?_set_ne hib] at hi; exact hS.none i bl hi hz
  · by_cases hib : b = i
    · subst hib
      rw [List.getElem?_set_self hbl] at hi
      injection hi with hi; injection hi with hi; subst hi
      obtain ⟨cur, hcur⟩ := hS'.blk 0 blk' (by simp) (by rw [e0]; exact hz)
      have hh := hcur.heap
      have hs := hcur.size
      rw [e0] at hh hs
      exact ⟨cur, hh, hs, RdL.moveN hc' hcur.pre, hcur.full⟩
    · rw [List.getElem?_set_ne hib] at hi
      obtain ⟨cur, hcur⟩ := hS.blk i bl hi hz
      refine ⟨cur, hcur.heap.of (hle.heap _ ⟨hcur.lt, fun hl => ?_⟩), hcur.size, hcur.pre.mono hle2 _ _, hcur.full⟩
      obtain ⟨hz1, e1⟩ := live1 _ hl
      exact hib (hS.inj b i _ _ hb hi hz1 hz e1)
  · have back : ∀ i bi, (H.set b (some blk'))[i]? = some (some bi) → ∃ bl, H[i]? = some (some bl) := fun i bi hi => by
      by_cases hib : b = i
      · subst hib; exact ⟨blk, hb⟩
      · rw [List.getElem?_set_ne hib] at hi; exact ⟨bi, hi⟩
    obtain ⟨x, hx⟩ := back i bi hi
    obtain ⟨y, hy⟩ := back j bj hj
    exact hS.inj i j x y hx hy hz hz' e
abbrev EntK := List D → Option (Nat × Cap × Blk × Prop)
def EntKOk (P : Program) (g : FuncId) (e : EntK) : Prop := ∀ ds n c blk p, e ds = some (n, c, blk, p) → p → CallJ P g ds [] (.sl 0 0 n c) [some blk] ∧ NamelessL ds ∧ NamelessL blk.cs
def addMake (f : FuncId) (e : EntK) (r : CallO) : CallO := fun g ds H K => bif Nat.beq g f then (match e ds with
  | some (n, c, blk, p) => some (p ∧ K (.sl H.length 0 n c) (H ++ [some blk]) (.mk H.length))
  | none => none) else r g ds H K
mutual
theorem shD_nameless {k : Nat} : ∀ d : D, Nameless d → shD k d = d
  | .v _, _ => rfl
  | .ro _ _, _ => rfl
  | .rp _ _, _ => rfl
  | .sl _ _ _ _, h => by simp [Nameless] at h
  | .ptr _ _, h => by simp [Nameless] at h
  | .agg xs, h => by simp only [Nameless] at h; simp only [shD]; rw [shL_nameless xs h]
  | .tup xs, h => by simp only [Nameless] at h; simp only [shD]; rw [shL_nameless xs h]
  | .ifc _ d, h => by simp only [Nameless] at h; simp only [shD]; rw [shD_nameless d h]
  | .fn _ _ xs, h => by simp only [Nameless] at h; simp only [shD]; rw [shL_nameless xs h]
theorem shL_nameless {k : Nat} : ∀ cs : List D, NamelessL cs → shL k cs = cs
  | [], _ => rfl
  | d :: ds, h => by simp only [NamelessL] at h; simp only [shL]; rw [shD_nameless d h.1, shL_nameless ds h.2]
end
theorem addMake_ok {P : Program} {f : FuncId} {e : EntK} {r : CallO} (he : EntKOk P f e) (hr : CallOK P r) : CallOK P (addMake f e r) := by
  intro g ds H K p h hp
  unfold addMake at h
  cases hg : Nat.beq g f with
  | false => rw [hg] at h; exact hr g ds H K p h hp
  | true =>
    rw [hg] at h
    have hgf : g = f := Nat.eq_of_beq_eq_true hg
    subst hgf
    simp only [cond_true] at h
    split at h
    · rename_i n c blk q hq
      injection h with h; subst h
      obtain ⟨hc, hn, hl⟩ := he _ _ _ _ _ hq hp.1
      refine .makes _ [some blk] (fun H1 hl1 => ?_) hp.2
      have := hc.frame hn H1
      simp only [shD, shH, List.map_cons, List.map_nil, shO, shB, shL_nameless _ hl, Nat.zero_add, hl1] at this
      exact this
    · cases h
theorem fin_second {ds : List D} {o n : Nat} {c : Cap} {blk : Blk} (hn : NamelessL blk.cs) : Fin ds [] (.sl 1 o n c) [none, some blk] (.sl 0 o n c) [some blk] := by
  intro ρ0 S0 w0 ρ S w u hS0 hle hS hr
  have live : ∀ k, Live (fun b => ρ (b + 1)) [some blk] k → Live ρ [none, some blk] k := by
    rintro k ⟨i, bl, hi, hz, e⟩
    exact ⟨i + 1, bl, by simpa using hi, hz, e⟩
  have up : ∀ (i : Nat) (bl : Blk), [some blk][i]? = some (some bl) → [none, some blk][i + 1]? = some (some bl) := fun i bl h => by simpa using h
  refine ⟨fun b => ρ (b + 1), S, ⟨fun k hk => ⟨(hS.sub k hk).1, fun hl => (hS.sub k hk).2 (live k hl)⟩, fun i bl hi hz => hS.none (i + 1) bl (up i bl hi) hz, fun i bl hi hz => ?_, fun i j bi bj hi hj hz hz' e => ?_, hS.glob⟩, ?_, ?_⟩
  · obtain ⟨cur, hcur⟩ := hS.blk (i + 1) bl (up i bl hi) hz
    refine ⟨cur, hcur.heap, hcur.size, RdL.moveN ?_ hcur.pre, hcur.full⟩
    cases i with
    | zero => simp at hi; subst hi; exact hn
    | succ i => simp at hi
  · have := hS.inj (i + 1) (j + 1) bi bj (up i bi hi) (up j bj hj) hz hz' e
    omega
  · exact ⟨Nat.zero_le _, fun b hb => absurd hb (Nat.not_lt_zero _), hle.S, hle.keep, hle.new, fun k hk => ⟨(hle.fix k hk).1, fun hl => (hle.fix k hk).2 (live k hl)⟩, hle.heap, hle.size, hle.os, hle.tape, hle.output⟩
  · cases c <;> simp only [Rd] at hr ⊢ <;> exact ⟨by simp, hr.2⟩
theorem CallJ.nilSl {P : Program} {f : FuncId} {ds : List D} {H H' : Heap} {b o : Nat} (hb : b < H'.length) (h : CallJ P f ds H (.v (.slice none 0 0)) H') : CallJ P f ds H (.sl b o 0 (.exact 0 1)) H' := by
  refine ⟨h.1, fun ρ S w vals hS hv => (h.2 ρ S w vals hS hv).mono fun e w' ⟨v, ρ', S', he, hS', hle, hr⟩ => ⟨v, ρ', S', he, hS', hle, ?_⟩⟩
  simp only [Rd] at hr ⊢
  exact ⟨hb, Nat.le_refl _, Nat.zero_le _, none, hr, fun h => absurd h (by decide)⟩
abbrev EntS := Nat → Nat → Cap → List D → Blk → Option (Nat × Prop)
def EntSOk (P : Program) (g : FuncId) (e : EntS) : Prop := ∀ off n c plain blk m p, e off n c plain blk = some (m, p) → p →
  NamelessL plain ∧ NamelessL blk.cs ∧ (m = 0 → CallJ P g (.sl 0 off n c :: plain) [some blk] (.v (.slice none 0 0)) [some blk]) ∧ (0 < m → CallJ P g (.sl 0 off n c :: plain) [some blk] (.sl 0 off m (.exact m 1)) [some blk])
def addCut (f : FuncId) (e : EntS) (r : CallO) : CallO := fun g ds H K => bif Nat.beq g f then (match ds with
  | .sl b off n c :: plain => match blkAt H b with
    | some blk => match e off n c plain blk with
      | some (m, p) => some (p ∧ K (.sl b off m (.exact m 1)) (H.set b (some blk)) .al)
      | none => none
    | none => none
  | _ => none) else r g ds H K
theorem addCut_ok {P : Program} {f : FuncId} {e : EntS} {r : CallO} (he : EntSOk P f e) (hr : CallOK P r) : CallOK P (addCut f e r) := by
  intro g ds H K p h hp
  unfold addCut at h
  cases hg : Nat.beq g f with
  | false => rw [hg] at h; exact hr g ds H K p h hp
  | true =>
    rw [hg] at h
    have hgf : g = f := Nat.eq_of_beq_eq_true hg
    subst hgf
    simp only [cond_true] at h
    split at h
    · rename_i b off n c plain
      split at h
      · rename_i blk hblk
        split at h
        · rename_i m q hq
          injection h with h; subst h
          obtain ⟨h1, h2, h3, h4⟩ := he _ _ _ _ _ _ _ hq hp.1
          have hs : CallJ P g (.sl 0 off n c :: plain) [some blk] (.sl 0 off m (.exact m 1)) [some blk] := by
            rcases Nat.eq_zero_or_pos m with h0 | h0
            · have := (h3 h0).nilSl (b := 0) (o := off) (by simp)
              rwa [h0]
            · exact h4 h0
          exact .own _ _ (hs.frameAtS h1 h2 h2 (blkAt_some hblk)) hp.2
        · cases h
      · cases h
    · cases h
theorem callJ_same {P : Program} {T : Tbl} (hT : TblOk P T) {N : Nat} {call : CallO} {lp : Nat → Option LoopO} (hm : P.follows .mixedOrders = true) (hc : CallOK P call) {f : FuncId} {fn : Func} {c : Code} {ds : List D} {H H' : Heap} {d : D} (hf : P.funcs[f]? = some fn) (hb : fn.body = some c)
    (hname : (fn.name == "runtime.NumGoroutine") = false) (hok : codeOk fn.ntmps c = true) (hlen : decide (ds.length ≤ fn.ntmps) = true) (hl : LpAll P fn.ntmps lp (loopsOf c))
    (h : vcx P call lp T N c (retQ T fn.results.toList fun d1 H1 => d1 = d ∧ H1 = H') (envOf 0 ds) H) : CallJ P f ds H d H' := by
  refine callJ_of_dw hT hf hb hname (by simpa using hlen) ((vcx_sound hT hm hc c _ _ _ hok hl h).mono fun e env H h => ?_)
  cases e <;> simp only [retQ] at h ⊢
  all_goals first
    | exact h.elim
    | (split at h
       · obtain ⟨g1, rfl, rfl⟩ := h
         exact ⟨g1, fin_same⟩
       · exact h.elim)
theorem callJ_second {P : Program} {T : Tbl} (hT : TblOk P T) {N : Nat} {call : CallO} {lp : Nat → Option LoopO} (hm : P.follows .mixedOrders = true) (hc : CallOK P call) {f : FuncId} {fn : Func} {c : Code} {ds : List D} {o n : Nat} {cp : Cap} {blk : Blk} (hf : P.funcs[f]? = some fn) (hb : fn.body = some c)
    (hname : (fn.name == "runtime.NumGoroutine") = false) (hok : codeOk fn.ntmps c = true) (hlen : decide (ds.length ≤ fn.ntmps) = true) (hl : LpAll P fn.ntmps lp (loopsOf c)) (hn : NamelessL blk.cs)
    (h : vcx P call lp T N c (retQ T fn.results.toList fun d1 H1 => d1 = .sl 1 o n cp ∧ H1 = [none, some blk]) (envOf 0 ds) []) : CallJ P f ds [] (.sl 0 o n cp) [some blk] := by
  refine callJ_of_dw hT hf hb hname (by simpa using hlen) ((vcx_sound hT hm hc c _ _ _ hok hl h).mono fun e env H h => ?_)
  cases e <;> simp only [retQ] at h ⊢
  all_goals first
    | exact h.elim
    | (split at h
       · obtain ⟨g1, g2, rfl⟩ := h
         rw [g2]
         exact ⟨g1, fin_second hn⟩
       · exact h.elim)
theorem CallJ.frameGrow {P : Program} {f : FuncId} {off n n' : Nat} {c : Cap} {plain : List D} {blk blk' : Blk} (h : CallJ P f (.sl 0 off n c :: plain) [some blk] (.sl 1 0 n' (.toEnd 1)) [none, some blk']) (hpl : NamelessL plain) (hc : NamelessL blk.cs) (hc' : NamelessL blk'.cs)
    {H : Heap} {b : Nat} (hb : H[b]? = some (some blk)) : CallJ P f (.sl b off n c :: plain) H (.sl H.length 0 n' (.toEnd 1)) (H.set b none ++ [some blk']) := by
  have hbl : b < H.length := (List.getElem?_eq_some_iff.1 hb).1
  refine ⟨h.1, fun ρ S w vals hS hv => ?_⟩
  have live1 : ∀ k, Live (fun _ => ρ b) [some blk] k → 0 < (ρ b).2 ∧ (ρ b).1 = k := by
    rintro k ⟨i, bl, hi, hz, e⟩
    exact ⟨hz, e⟩
  have live1H : ∀ k, Live (fun _ => ρ b) [some blk] k → Live ρ H k := fun k hk => ⟨b, blk, hb, (live1 k hk).1, (live1 k hk).2⟩
  have hS1 : St (fun _ => ρ b) S w [some blk] := by
    refine ⟨fun k hk => ⟨(hS.sub k hk).1, fun hl => (hS.sub k hk).2 (live1H k hl)⟩, fun i bl hi hz => ?_, fun i bl hi hz => ?_, fun i j bi bj hi hj _ _ _ => ?_, hS.glob⟩
    · cases i with
      | zero => simp at hi; subst hi; exact hS.none b _ hb hz
      | succ i => simp at hi
    · cases i with
      | zero =>
        simp at hi; subst hi
        obtain ⟨cur, hcur⟩ := hS.blk b _ hb hz
        exact ⟨cur, hcur.heap, hcur.size, RdL.moveN hc hcur.pre, hcur.full⟩
      | succ i => simp at hi
    · cases i with
      | zero => cases j with
        | zero => rfl
        | succ j => simp at hj
      | succ i => simp at hi
  have hv1 : RdT (ctx (fun _ => ρ b) S w [some blk]) (.sl 0 off n c :: plain) vals := by
    simp only [RdT] at hv ⊢
    obtain ⟨u, r, e, h1, h2⟩ := hv
    refine ⟨u, r, e, ?_, RdT.move hpl h2⟩
    cases c <;> simp only [Rd] at h1 ⊢ <;> exact ⟨by simp, h1.2⟩
  refine (h.2 _ S w vals hS1 hv1).mono fun e w' ⟨v, ρ', S', he, hS', hle, hr⟩ => ?_
  let ρ2 : Nat → Nat × Nat := fun i => if i = H.length then ρ' 1 else ρ i
  have e2 : ρ2 H.length = ρ' 1 := if_pos rfl
  have e1 : ∀ i, i < H.length → ρ2 i = ρ i := fun i hi => if_neg (by omega)
  have get2 : ∀ i bl, (H.set b none ++ [some blk'])[i]? = some (some bl) → (i = H.length ∧ bl = blk') ∨ (i ≠ b ∧ i < H.length ∧ H[i]? = some (some bl)) := by
    intro i bl hi
    rcases Nat.lt_or_ge i H.length with hlt | hge
    · rw [List.getElem?_append_left (by simpa using hlt)] at hi
      by_cases hib : b = i
      · subst hib
        rw [List.getElem?_set_self hbl] at hi
        simp at hi
      · rw [List.getElem?_set_ne hib] at hi
        exact .inr ⟨fun e => hib e.symm, hlt, hi⟩
    · rw [List.getElem?_append_right (by simpa using hge)] at hi
      simp only [List.length_set] at hi
      have hi0 : i - H.length = 0 := by
        rcases Nat.eq_zero_or_pos (i - H.length) with h0 | h0
        · exact h0
        · rw [List.getElem?_eq_none (by simp; omega)] at hi; simp at hi
      rw [hi0] at hi
      simp at hi
      exact .inl ⟨by omega, hi.symm⟩
  have live' : ∀ k, Live ρ2 (H.set b none ++ [some blk']) k → (0 < (ρ' 1).2 ∧ (ρ' 1).1 = k) ∨ ∃ i bl, i ≠ b ∧ H[i]? = some (some bl) ∧ 0 < (ρ i).2 ∧ (ρ i).1 = k := by
    rintro k ⟨i, bl, hi, hz, e⟩
    rcases get2 i bl hi with ⟨rfl, rfl⟩ | ⟨h1, h2, h3⟩
    · rw [e2] at hz e; exact .inl ⟨hz, e⟩
    · rw [e1 i h2] at hz e; exact .inr ⟨i, bl, h1, h3, hz, e⟩
  have live2 : ∀ k, (0 < (ρ' 1).2 ∧ (ρ' 1).1 = k) → Live ρ' [none, some blk'] k := fun k hk => ⟨1, blk', by simp, hk.1, hk.2⟩
  have new1 : 0 < (ρ' 1).2 → (0 < (ρ b).2 ∧ (ρ b).1 = (ρ' 1).1) ∨ w.heap.size ≤ (ρ' 1).1 := fun hz => by
    rcases Nat.lt_or_ge (ρ' 1).1 w.heap.size with hlt | hge
    · by_cases hl : Live (fun _ => ρ b) [some blk] (ρ' 1).1
      · exact .inl (live1 _ hl)
      · exact absurd (live2 _ ⟨hz, rfl⟩) (hle.fix _ ⟨hlt, hl⟩).2
    · exact .inr hge
  have hle2 : (ctx ρ S w H).le (ctx ρ2 S' w' (H.set b none ++ [some blk'])) := by
    refine ⟨by simp, fun i hi => e1 i hi, hle.S, hle.keep, fun k hk => ?_, fun k hk => ⟨Nat.lt_of_lt_of_le hk.1 hle.size, fun hl => ?_⟩, fun k hk => hle.heap k ⟨hk.1, fun hl => hk.2 (live1H k hl)⟩, hle.size, hle.os, hle.tape, hle.output⟩
    · rcases hle.new k hk with h | h | h
      · exact .inl h
      · exact .inr (.inl (live1H k h))
      · exact .inr (.inr h)
    · rcases live' k hl with ⟨hz, e⟩ | ⟨i, bl, _, hi, hz, e⟩
      · rcases new1 hz with h1 | h1
        · exact hk.2 ⟨b, blk, hb, h1.1, h1.2.trans e⟩
        · have := hk.1; simp only [ctx] at *; omega
      · exact hk.2 ⟨i, bl, hi, hz, e⟩
  refine ⟨v, ρ2, S', he, ⟨fun k hk => ⟨(hS'.sub k hk).1, fun hl => ?_⟩, fun i bl hi hz => ?_, fun i bl hi hz => ?_, fun i j bi bj hi hj hz hz' e => ?_, hS'.glob⟩, hle2, ?_⟩
  · rcases live' k hl with h | ⟨i, bl, hib, hi, hz, e⟩
    · exact (hS'.sub k hk).2 (live2 k h)
    · rcases hle.new k hk with h | h | h
      · exact (hS.sub k h).2 ⟨i, bl, hi, hz, e⟩
      · obtain ⟨hz1, e1⟩ := live1 k h
        exact hib (hS.inj i b _ _ hi hb hz hz1 (e.trans e1.symm))
      · have := hS.lt ⟨i, bl, hi, hz, e⟩; simp only [ctx] at *; omega
  · rcases get2 i bl hi with ⟨rfl, rfl⟩ | ⟨h1, h2, h3⟩
    · rw [e2] at hz; exact hS'.none 1 bl (by simp) hz
    · rw [e1 i h2] at hz; exact hS.none i bl h3 hz
  · rcases get2 i bl hi with ⟨rfl, rfl⟩ | ⟨h1, h2, h3⟩
    · rw [e2] at hz ⊢
      obtain ⟨cur, hcur⟩ := hS'.blk 1 bl (by simp) hz
      exact ⟨cur, hcur.heap, hcur.size, RdL.moveN hc' hcur.pre, hcur.full⟩
    · rw [e1 i h2] at hz ⊢
      obtain ⟨cur, hcur⟩ := hS.blk i bl h3 hz
      refine ⟨cur, hcur.heap.of (hle.heap _ ⟨hcur.lt, fun hl => ?_⟩), hcur.size, hcur.pre.mono hle2 _ _, hcur.full⟩
      obtain ⟨hz1, e1⟩ := live1 _ hl
      exact h1 (hS.inj i b _ _ h3 hb hz hz1 e1.symm)
  · have cross : ∀ i bi, i ≠ b → H[i]? = some (some bi) → 0 < (ρ i).2 → 0 < (ρ' 1).2 → (ρ i).1 ≠ (ρ' 1).1 := fun i bi hib hi hz hz' e => by
      rcases new1 hz' with h1 | h1
      · exact hib (hS.inj i b _ _ hi hb hz h1.1 (e.trans h1.2.symm))
      · have := hS.lt ⟨i, bi, hi, hz, rfl⟩; omega
    rcases get2 i bi hi with ⟨rfl, rfl⟩ | ⟨h1, h2, h3⟩
    · rcases get2 j bj hj with ⟨rfl, rfl⟩ | ⟨g1, g2, g3⟩
      · rfl
      · rw [e2] at hz e; rw [e1 j g2] at hz' e
        exact absurd e.symm (cross j bj g1 g3 hz' hz)
    · rcases get2 j bj hj with ⟨rfl, rfl⟩ | ⟨g1, g2, g3⟩
      · rw [e2] at hz' e; rw [e1 i h2] at hz e
        exact absurd e (cross i bi h1 h3 hz hz')
      · rw [e1 i h2] at hz e; rw [e1 j g2] at hz' e
        exact hS.inj i j bi bj h3 g3 hz hz' e
  · simp only [Rd] at hr ⊢
    have hr2 := hr.2
    rw [← e2] at hr2
    exact ⟨by simp, hr2⟩
abbrev EntR := Nat → Nat → Cap → List D → Blk → Option (Bool × Nat × Blk × Prop)
def EntROk (P : Program) (g : FuncId) (e : EntR) : Prop := ∀ off n c plain blk gr m blk' p, e off n c plain blk = some (gr, m, blk', p) → p →
  (NamelessL plain ∧ NamelessL blk.cs ∧ NamelessL blk'.cs) ∧ (gr = false → CallJ P g (.sl 0 off n c :: plain) [some blk] (.sl 0 0 m (.toEnd 1)) [some blk']) ∧ (gr = true → CallJ P g (.sl 0 off n c :: plain) [some blk] (.sl 1 0 m (.toEnd 1)) [none, some blk'])
def addGrow (f : FuncId) (e : EntR) (r : CallO) : CallO := fun g ds H K => bif Nat.beq g f then (match ds with
  | .sl b off n c :: plain => match blkAt H b with
    | some blk => match e off n c plain blk with
      | some (gr, m, blk', p) => some (p ∧ pcond gr (K (.sl H.length 0 m (.toEnd 1)) (H.set b none ++ [some blk']) .al) (K (.sl b 0 m (.toEnd 1)) (H.set b (some blk')) .al))
      | none => none
    | none => none
  | _ => none) else r g ds H K
theorem addGrow_ok {P : Program} {f : FuncId} {e : EntR} {r : CallO} (he : EntROk P f e) (hr : CallOK P r) : CallOK P (addGrow f e r) := by
  intro g ds H K p h hp
  unfold addGrow at h
  cases hg : Nat.beq g f with
  | false => rw [hg] at h; exact hr g ds H K p h hp
  | true =>
    rw [hg] at h
    have hgf : g = f := Nat.eq_of_beq_eq_true hg
    subst hgf
    simp only [cond_true] at h
    split at h
    · rename_i b off n c plain
      split at h
      · rename_i blk hblk
        split at h
        · rename_i gr m blk' q hq
          injection h with h; subst h
          obtain ⟨⟨h1, h2, h3⟩, h4, h5⟩ := he _ _ _ _ _ _ _ _ _ hq hp.1
          have hk := hp.2
          cases gr with
          | true =>
            rw [pcond_true] at hk
            exact .own _ _ ((h5 rfl).frameGrow h1 h2 h3 (blkAt_some hblk)) hk
          | false =>
            rw [pcond_false] at hk
            exact .own _ _ ((h4 rfl).frameAtS h1 h2 h3 (blkAt_some hblk)) hk
        · cases h
      · cases h
    · cases h
theorem fin_third {ds : List D} {y x : Option Blk} {o n : Nat} {c : Cap} {blk : Blk} (hn : NamelessL blk.cs) : Fin ds [y] (.sl 2 o n c) [none, x, some blk] (.sl 1 o n c) [none, some blk] := by
  intro ρ0 S0 w0 ρ S w u hS0 hle hS hr
  let ρ2 : Nat → Nat × Nat := fun b => if b = 1 then ρ 2 else ρ b
  have e1 : ρ2 1 = ρ 2 := rfl
  have e0 : ρ2 0 = ρ 0 := rfl
  have get : ∀ (i : Nat) (bl : Blk), ([none, some blk] : Heap)[i]? = some (some bl) → i = 1 ∧ bl = blk := by
    intro i bl h
    match i with
    | 0 => simp at h
    | 1 => simp at h; exact ⟨rfl, h.symm⟩
    | i + 2 => simp at h
  have at2 : ([none, x, some blk] : Heap)[2]? = some (some blk) := rfl
  have live : ∀ k, Live ρ2 [none, some blk] k → Live ρ [none, x, some blk] k := by
    rintro k ⟨i, bl, hi, hz, e⟩
    obtain ⟨rfl, rfl⟩ := get i bl hi
    rw [e1] at hz e
    exact ⟨2, bl, at2, hz, e⟩
  refine ⟨ρ2, S, ⟨fun k hk => ⟨(hS.sub k hk).1, fun hl => (hS.sub k hk).2 (live k hl)⟩, fun i bl hi hz => ?_, fun i bl hi hz => ?_, fun i j bi bj hi hj hz hz' e => ?_, hS.glob⟩, ?_, ?_⟩
  · obtain ⟨rfl, rfl⟩ := get i bl hi
    rw [e1] at hz
    exact hS.none 2 bl at2 hz
  · obtain ⟨rfl, rfl⟩ := get i bl hi
    rw [e1] at hz ⊢
    obtain ⟨cur, hcur⟩ := hS.blk 2 bl at2 hz
    exact ⟨cur, hcur.heap, hcur.size, RdL.moveN hn hcur.pre, hcur.full⟩
  · rw [(get i bi hi).1, (get j bj hj).1]
  · refine ⟨by simp, fun b hb => ?_, hle.S, hle.keep, hle.new, fun k hk => ⟨(hle.fix k hk).1, fun hl => (hle.fix k hk).2 (live k hl)⟩, hle.heap, hle.size, hle.os, hle.tape, hle.output⟩
    have : b = 0 := by simp at hb; exact hb
    subst this
    rw [← hle.ρ 0 (by simp)]
    exact e0
  · cases c <;> simp only [Rd] at hr ⊢ <;> exact ⟨by simp, hr.2⟩
theorem callJ_third {P : Program} {T : Tbl} (hT : TblOk P T) {N : Nat} {call : CallO} {lp : Nat → Option LoopO} (hm : P.follows .mixedOrders = true) (hc : CallOK P call) {f : FuncId} {fn : Func} {c : Code} {ds : List D} {o n : Nat} {cp : Cap} {y : Option Blk} {blk : Blk} (hf : P.funcs[f]? = some fn) (hb : fn.body = some c)
    (hname : (fn.name == "runtime.NumGoroutine") = false) (hok : codeOk fn.ntmps c = true) (hlen : decide (ds.length ≤ fn.ntmps) = true) (hl : LpAll P fn.ntmps lp (loopsOf c)) (hn : NamelessL blk.cs)
    (h : vcx P call lp T N c (retQ T fn.results.toList fun d1 H1 => d1 = .sl 2 o n cp ∧ ∃ x, H1 = [none, x, some blk]) (envOf 0 ds) [y]) : CallJ P f ds [y] (.sl 1 o n cp) [none, some blk] := by
  refine callJ_of_dw hT hf hb hname (by simpa using hlen) ((vcx_sound hT hm hc c _ _ _ hok hl h).mono fun e env H h => ?_)
  cases e <;> simp only [retQ] at h ⊢
  all_goals first
    | exact h.elim
    | (split at h
       · obtain ⟨g1, g2, x, rfl⟩ := h
         rw [g2]
         exact ⟨g1, fin_third hn⟩
       · exact h.elim)
end Go.VD
end
