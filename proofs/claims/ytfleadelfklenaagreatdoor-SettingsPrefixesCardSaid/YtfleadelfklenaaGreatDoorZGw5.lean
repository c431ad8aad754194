import Derived.Test.YtfleadelfklenaaGreatDoorZGw4
import Derived.StillTail
section
namespace Go.VD
set_option linter.unusedVariables false
set_option linter.unusedSimpArgs false
def maskGo (σ : List Nat) : Nat → Heap → Heap
  | _, [] => []
  | i, x :: r => (bif σ.contains i then x else none) :: maskGo σ (i + 1) r
def mask (σ : List Nat) (H : Heap) : Heap := maskGo σ 0 H
def unGo (σ : List Nat) : Nat → Heap → Heap → Heap
  | _, [], X => X
  | _, x :: r, [] => x :: r
  | i, x :: r, y :: X => (bif σ.contains i then y else x) :: unGo σ (i + 1) r X
def un (σ : List Nat) (H X : Heap) : Heap := unGo σ 0 H X
theorem maskGo_get (σ : List Nat) : ∀ (H : Heap) (i : Nat), (maskGo σ i H).length = H.length ∧ ∀ b, (maskGo σ i H)[b]? = if σ.contains (i + b) = true then H[b]? else (if b < H.length then some none else none)
  | [], i => ⟨rfl, fun b => by simp [maskGo]⟩
  | x :: r, i => by
    obtain ⟨h1, h2⟩ := maskGo_get σ r (i + 1)
    refine ⟨by simp [maskGo, h1], fun b => ?_⟩
    simp only [maskGo]
    cases b with
    | zero => simp only [List.getElem?_cons_zero, Nat.add_zero, List.length_cons, Nat.zero_lt_succ, if_true]; cases σ.contains i <;> simp
    | succ b =>
      simp only [List.getElem?_cons_succ, List.length_cons, Nat.add_lt_add_iff_right]
      rw [h2 b, show i + 1 + b = i + (b + 1) by omega]
theorem unGo_get (σ : List Nat) : ∀ (H X : Heap) (i : Nat), H.length ≤ X.length → (unGo σ i H X).length = X.length ∧ ∀ b, (unGo σ i H X)[b]? = if σ.contains (i + b) = true ∨ H.length ≤ b then X[b]? else H[b]?
  | [], X, i, _ => ⟨rfl, fun b => by simp [unGo]⟩
  | x :: r, [], i, h => by simp at h
  | x :: r, y :: X, i, h => by
    obtain ⟨h1, h2⟩ := unGo_get σ r X (i + 1) (by simpa using h)
    refine ⟨by simp [unGo, h1], fun b => ?_⟩
    simp only [unGo]
    cases b with
    | zero => simp only [List.getElem?_cons_zero, Nat.add_zero, List.length_cons, Nat.not_succ_le_zero, or_false]; cases σ.contains i <;> simp
    | succ b =>
      simp only [List.getElem?_cons_succ, List.length_cons, Nat.add_le_add_iff_right]
      rw [h2 b, show i + 1 + b = i + (b + 1) by omega]
theorem mask_get {σ : List Nat} {H : Heap} (b : Nat) : (mask σ H)[b]? = if b ∈ σ then H[b]? else (if b < H.length then some none else none) := by
  have := (maskGo_get σ H 0).2 b
  simpa [mask] using this
theorem mask_length (σ : List Nat) (H : Heap) : (mask σ H).length = H.length := (maskGo_get σ H 0).1
theorem un_get {σ : List Nat} {H X : Heap} (h : H.length ≤ X.length) (b : Nat) : (un σ H X)[b]? = if b ∈ σ ∨ H.length ≤ b then X[b]? else H[b]? := by
  have := (unGo_get σ H X 0 h).2 b
  simpa [un] using this
theorem un_length {σ : List Nat} {H X : Heap} (h : H.length ≤ X.length) : (un σ H X).length = X.length := (unGo_get σ H X 0 h).1
theorem mask_congr {σ : List Nat} {H H1 : Heap} (h : ∀ b, b ∈ σ → H1[b]? = H[b]?) (hl : H1.length = H.length) : mask σ H1 = mask σ H := List.ext_getElem? fun b => by
  rw [mask_get, mask_get, hl]
  split
  · exact h b (by assumption)
  · rfl
theorem mask_drops (σ : List Nat) (H : Heap) : Drops H (mask σ H) := ⟨mask_length σ H, fun b blk h => by
  rw [mask_get] at h
  split at h
  · exact h
  · split at h <;> simp at h⟩
theorem mask_some {σ : List Nat} {H : Heap} {b : Nat} {blk : Blk} (h : (mask σ H)[b]? = some (some blk)) : b ∈ σ ∧ H[b]? = some (some blk) := by
  rw [mask_get] at h
  split at h
  · exact ⟨by assumption, h⟩
  · split at h <;> simp at h
theorem RdT.drops {ρ : Nat → Nat × Nat} {S : Nat → Prop} {w : World} {H H' : Heap} (d : Drops H H') {ds : List D} {us : List Value} (h : RdT (ctx ρ S w H) ds us) : RdT (ctx ρ S w H') ds us := h.mono d.le _ _
section
variable {ρ : Nat → Nat × Nat} {S : Nat → Prop} {w : World} {H H' : Heap}
mutual
theorem rd_len (hl : H.length ≤ H'.length) : ∀ (d : D) (u : Value), Rd (ctx ρ S w H) d u → Rd (ctx ρ S w H') d u
  | .v x, u, hr => by simpa only [Rd] using hr
  | .ro n xs, u, hr => Rd.move (by simp only [Rd] at hr; simpa [Nameless] using hr.1) hr
  | .rp xs j, u, hr => Rd.move (by simp only [Rd] at hr; simpa [Nameless] using hr.1) hr
  | .sl b off n (.exact c es), u, hr => by simp only [Rd] at hr ⊢; exact ⟨Nat.lt_of_lt_of_le hr.1 hl, hr.2⟩
  | .sl b off n (.toEnd es), u, hr => by simp only [Rd] at hr ⊢; exact ⟨Nat.lt_of_lt_of_le hr.1 hl, hr.2⟩
  | .ptr b off, u, hr => by simp only [Rd] at hr ⊢; exact ⟨Nat.lt_of_lt_of_le hr.1 hl, hr.2⟩
  | .agg xs, u, hr => by
    simp only [Rd] at hr ⊢
    obtain ⟨us, e, h⟩ := hr
    exact ⟨us, e, rdL_len hl xs _ h⟩
  | .tup xs, u, hr => by
    simp only [Rd] at hr ⊢
    obtain ⟨us, e, h⟩ := hr
    exact ⟨us, e, rdT_len hl xs _ h⟩
  | .ifc t d, u, hr => by
    simp only [Rd] at hr ⊢
    obtain ⟨x, e, h⟩ := hr
    exact ⟨x, e, rd_len hl d x h⟩
  | .fn f k caps, u, hr => by
    simp only [Rd] at hr ⊢
    obtain ⟨fs, us, e, hk, h⟩ := hr
    exact ⟨fs, us, e, hk, rdT_len hl caps _ h⟩
theorem rdL_len (hl : H.length ≤ H'.length) : ∀ (ds : List D) (us : List Value), RdL (ctx ρ S w H) ds us → RdL (ctx ρ S w H') ds us
  | [], us, h => by simpa only [RdL] using h
  | d :: ds, us, h => by
    simp only [RdL] at h ⊢
    obtain ⟨u, r, e, ho, hd, hr⟩ := h
    exact ⟨u, r, e, ho, rd_len hl d u hd, rdL_len hl ds r hr⟩
theorem rdT_len (hl : H.length ≤ H'.length) : ∀ (ds : List D) (us : List Value), RdT (ctx ρ S w H) ds us → RdT (ctx ρ S w H') ds us
  | [], us, h => by simpa only [RdT] using h
  | d :: ds, us, h => by
    simp only [RdT] at h ⊢
    obtain ⟨u, r, e, hd, hr⟩ := h
    exact ⟨u, r, e, rd_len hl d u hd, rdT_len hl ds r hr⟩
end
end
theorem CallJ.mask {P : Program} {f : FuncId} {ds : List D} {H X : Heap} {d : D} {σ : List Nat} (h : CallJ P f ds (mask σ H) d X) : CallJ P f ds H d (un σ H X) := by
  refine ⟨h.1, fun ρ S w vals hS hv => ?_⟩
  have hD := mask_drops σ H
  refine (h.2 ρ S w vals (hS.drops hD) (hv.drops hD)).mono fun e w' ⟨v, ρ', S', he, hS', hle, hr⟩ => ?_
  have hX : H.length ≤ X.length := by have := hle.N; simpa only [mask_length] using this
  have hρ : ∀ b, b < H.length → ρ' b = ρ b := fun b hb => hle.ρ b (by simpa only [mask_length] using hb)
  have upL : ∀ x, Live ρ (VD.mask σ H) x → Live ρ H x := fun x ⟨b, blk, hb, hz, e⟩ => ⟨b, blk, hD.2 b blk hb, hz, e⟩
  have get : ∀ b blk, (un σ H X)[b]? = some (some blk) → (X[b]? = some (some blk) ∧ (b ∈ σ ∨ H.length ≤ b)) ∨ (H[b]? = some (some blk) ∧ b ∉ σ ∧ b < H.length) := by
    intro b blk hb
    rw [un_get hX] at hb
    split at hb
    · exact .inl ⟨hb, by assumption⟩
    · rename_i hn
      exact .inr ⟨hb, fun h => hn (.inl h), Nat.lt_of_not_le fun h => hn (.inr h)⟩
  have other : ∀ b blk, H[b]? = some (some blk) → b ∉ σ → 0 < (ρ b).2 → ¬ Live ρ (VD.mask σ H) (ρ b).1 := fun b blk hb hm hz hl => by
    obtain ⟨c, bl, hc, hzc, e⟩ := hl
    obtain ⟨hc1, hc2⟩ := mask_some hc
    have := hS.inj b c _ _ hb hc2 hz hzc e.symm
    subst this
    exact hm hc1
  have fixS : ∀ x, Fix (ctx ρ S w H) x → Fix (ctx ρ S w (VD.mask σ H)) x := fun x hx => ⟨hx.1, fun hl => hx.2 (upL x hl)⟩
  have cross : ∀ c bc b blk, X[c]? = some (some bc) → 0 < (ρ' c).2 → H[b]? = some (some blk) → b ∉ σ → 0 < (ρ b).2 → (ρ' c).1 ≠ (ρ b).1 := fun c bc b blk hc hzc hb hm hz e =>
    (hle.fix (ρ b).1 ⟨hS.lt ⟨b, blk, hb, hz, rfl⟩, other b blk hb hm hz⟩).2 ⟨c, bc, hc, hzc, e⟩
  have live2 : ∀ x, Live ρ' (un σ H X) x → Live ρ' X x ∨ ∃ b blk, H[b]? = some (some blk) ∧ b ∉ σ ∧ 0 < (ρ b).2 ∧ (ρ b).1 = x := by
    rintro x ⟨b, blk, hb, hz, e⟩
    rcases get b blk hb with ⟨h1, _⟩ | ⟨h1, h2, h3⟩
    · exact .inl ⟨b, blk, h1, hz, e⟩
    · rw [hρ b h3] at hz e; exact .inr ⟨b, blk, h1, h2, hz, e⟩
  have hle2 : (ctx ρ S w H).le (ctx ρ' S' w' (un σ H X)) := by
    refine ⟨by show H.length ≤ (un σ H X).length; rw [un_length hX]; exact hX, fun b hb => hρ b hb, hle.S, hle.keep, fun x hx => ?_, fun x hx => ⟨Nat.lt_of_lt_of_le hx.1 hle.size, fun hl => ?_⟩, fun x hx => hle.heap x (fixS x hx), hle.size, hle.os, hle.tape, hle.output⟩
    · rcases hle.new x hx with h | h | h
      · exact .inl h
      · exact .inr (.inl (upL x h))
      · exact .inr (.inr h)
    · rcases live2 x hl with h | ⟨b, blk, hb, _, hz, e⟩
      · exact (hle.fix x (fixS x hx)).2 h
      · exact hx.2 ⟨b, blk, hb, hz, e⟩
  have rdX : ∀ (d : D) (u : Value), Rd (ctx ρ' S' w' X) d u → Rd (ctx ρ' S' w' (un σ H X)) d u := fun d u hd => rd_len (by show X.length ≤ (un σ H X).length; rw [un_length hX]; exact Nat.le_refl _) d u hd
  refine ⟨v, ρ', S', he, ⟨fun x hx => ⟨(hS'.sub x hx).1, fun hl => ?_⟩, fun b blk hb hz => ?_, fun b blk hb hz => ?_, fun b c bl bl' hb hc hz hz' e => ?_, hS'.glob⟩, hle2, rdX d v hr⟩
  · rcases live2 x hl with h | ⟨b, blk, hb, hm, hz, e⟩
    · exact (hS'.sub x hx).2 h
    · rcases hle.new x hx with h | h | h
      · exact (hS.sub x h).2 ⟨b, blk, hb, hz, e⟩
      · subst e; exact other b blk hb hm hz h
      · have := hS.lt ⟨b, blk, hb, hz, e⟩; simp only [ctx] at *; omega
  · rcases get b blk hb with ⟨h1, _⟩ | ⟨h1, h2, h3⟩
    · exact hS'.none b blk h1 hz
    · rw [hρ b h3] at hz; exact hS.none b blk h1 hz
  · rcases get b blk hb with ⟨h1, _⟩ | ⟨h1, h2, h3⟩
    · obtain ⟨cur, hc⟩ := hS'.blk b blk h1 hz
      exact ⟨cur, hc.heap, hc.size, rdL_len (by show X.length ≤ (un σ H X).length; rw [un_length hX]; exact Nat.le_refl _) _ _ hc.pre, hc.full⟩
    · rw [hρ b h3] at hz ⊢
      obtain ⟨cur, hc⟩ := hS.blk b blk h1 hz
      exact ⟨cur, hc.heap.of (hle.heap _ ⟨hc.lt, other b blk h1 h2 hz⟩), hc.size, hc.pre.mono hle2 _ _, hc.full⟩
  · rcases get b bl hb with ⟨h1, _⟩ | ⟨h1, h2, h3⟩ <;> rcases get c bl' hc with ⟨g1, _⟩ | ⟨g1, g2, g3⟩
    · exact hS'.inj b c bl bl' h1 g1 hz hz' e
    · rw [hρ c g3] at hz' e; exact absurd e (cross b bl c bl' h1 hz g1 g2 hz')
    · rw [hρ b h3] at hz e; exact absurd e.symm (cross c bl' b bl g1 hz' h1 h2 hz)
    · rw [hρ b h3] at hz e; rw [hρ c g3] at hz' e; exact hS.inj b c bl bl' h1 g1 hz hz' e
end Go.VD
end
section
namespace Go.VD
set_option linter.unusedVariables false
set_option linter.unusedSimpArgs false
def bindD (dst : Option Nat) (d : D) (env : Env) : Env := match dst with
  | none => env
  | some t => (t, d) :: env
def gslot (ops : Array Oper) (j : Nat) : Option Nat := (ops[j]?).bind (·.dst)
def Wt : Tch → Nat → Prop
  | .wr c, b => c = b
  | .mk n, b => n ≤ b
  | .al, _ => True
  | .fp _ ws n, b => b ∈ ws ∨ n ≤ b
  | .rw _ ws, b => b ∈ ws
  | _, _ => False
def Rt : Tch → Nat → Prop
  | .rd c, b => c = b
  | .wr c, b => c = b
  | .ra, _ => True
  | .al, _ => True
  | .fp rs ws _, b => b ∈ rs ∨ b ∈ ws
  | .rw rs ws, b => b ∈ rs ∨ b ∈ ws
  | _, _ => False
def Lw : Tch → Prop
  | .mk _ => True
  | .al => True
  | .fp _ _ _ => True
  | _ => False
def Rl : Tch → Prop
  | .mk _ => True
  | .ra => True
  | .al => True
  | .fp _ _ _ => True
  | .rw _ _ => True
  | _ => False
def clash : Tch → Tch → Bool
  | .no, _ => false
  | _, .no => false
  | .rd _, .rd _ => false
  | .rd _, .ra => false
  | .ra, .rd _ => false
  | .ra, .ra => false
  | .rd b, .wr c => b == c
  | .wr b, .rd c => b == c
  | .wr b, .wr c => b == c
  | .rd b, .mk n => decide (n ≤ b)
  | .mk n, .rd b => decide (n ≤ b)
  | .wr b, .mk n => decide (n ≤ b)
  | .mk n, .wr b => decide (n ≤ b)
  | .fp rs ws n, .rd b => ws.contains b || decide (n ≤ b)
  | .rd b, .fp rs ws n => ws.contains b || decide (n ≤ b)
  | .fp rs ws n, .wr b => ws.contains b || (rs.contains b || decide (n ≤ b))
  | .wr b, .fp rs ws n => ws.contains b || (rs.contains b || decide (n ≤ b))
  | .rw rs ws, .rd b => ws.contains b
  | .rd b, .rw rs ws => ws.contains b
  | .rw rs ws, .wr b => ws.contains b || rs.contains b
  | .wr b, .rw rs ws => ws.contains b || rs.contains b
  | .rw rs ws, .rw rs' ws' => ws.any (fun b => rs'.contains b || ws'.contains b) || rs.any fun b => ws'.contains b
  | _, _ => true
theorem clash_wr {t u : Tch} {b : Nat} (h : Wt t b) (k : Rt u b) : clash t u = true := by
  cases t <;> cases u <;> first | (simp_all [Wt, Rt, clash]; done) | (simp [Wt, Rt, clash] at h k ⊢; grind)
theorem clash_rw {t u : Tch} {b : Nat} (h : Rt t b) (k : Wt u b) : clash t u = true := by
  cases t <;> cases u <;> first | (simp_all [Wt, Rt, clash]; done) | (simp [Wt, Rt, clash] at h k ⊢; grind)
theorem clash_ww {t u : Tch} {b : Nat} (h : Wt t b) (k : Wt u b) : clash t u = true := by
  cases t <;> cases u <;> first | (simp_all [Wt, clash]; done) | (simp [Wt, clash] at h k ⊢; grind)
theorem clash_lr {t u : Tch} (h : Lw t) (k : Rl u) : clash t u = true := by
  cases t <;> cases u <;> simp_all [Lw, Rl, clash]
theorem clash_rl {t u : Tch} (h : Rl t) (k : Lw u) : clash t u = true := by
  cases t <;> cases u <;> simp_all [Lw, Rl, clash]
theorem clash_ll {t u : Tch} (h : Lw t) (k : Lw u) : clash t u = true := by
  cases t <;> cases u <;> simp_all [Lw, clash]
structure StepF (P : Program) (o : Oper) (env : Env) (t : Tch) (d : D) (H H' : Heap) : Prop where
  run : ∀ H1 : Heap, (∀ b, Rt t b → H1[b]? = H[b]?) → (Rl t → H1.length = H.length) → ∃ H1' : Heap, Step P o env H1 d H1' ∧ (∀ b, Wt t b → H1'[b]? = H'[b]?) ∧ (∀ b, ¬ Wt t b → H1'[b]? = H1[b]?) ∧ (Lw t → H1'.length = H'.length) ∧ (¬ Lw t → H1'.length = H1.length)
  keep : ∀ b, ¬ Wt t b → H'[b]? = H[b]?
  len : ¬ Lw t → H'.length = H.length
section
variable {P : Program} {o : Oper} {env : Env} {d : D} {H H' : Heap}
theorem StepF.of_no (h : StepP P o env d) : StepF P o env .no d H H := ⟨fun H1 _ _ => ⟨H1, h H1, fun b hb => hb.elim, fun b _ => rfl, fun hl => hl.elim, fun _ => rfl⟩, fun b _ => rfl, fun _ => rfl⟩
theorem StepF.of_rd {b : Nat} (h : ∀ H1 : Heap, H1[b]? = H[b]? → Step P o env H1 d H1) : StepF P o env (.rd b) d H H := ⟨fun H1 h1 _ => ⟨H1, h H1 (h1 b rfl), fun b hb => hb.elim, fun b _ => rfl, fun hl => hl.elim, fun _ => rfl⟩, fun b _ => rfl, fun _ => rfl⟩
theorem StepF.of_wr {b : Nat} {y : Option Blk} (h : ∀ H1 : Heap, H1[b]? = H[b]? → Step P o env H1 d (H1.set b y)) : StepF P o env (.wr b) d H (H.set b y) := by
  refine ⟨fun H1 h1 _ => ⟨H1.set b y, h H1 (h1 b rfl), fun c hc => ?_, fun c hc => ?_, fun hl => hl.elim, fun _ => by simp⟩, fun c hc => ?_, fun _ => by simp⟩
  · have hc : b = c := hc
    subst hc
    have := h1 b rfl
    rw [List.getElem?_set_self', List.getElem?_set_self', this]
  · rw [List.getElem?_set_ne (fun e => hc e)]
  · rw [List.getElem?_set_ne (fun e => hc e)]
theorem StepF.of_mk {L : Heap} (h : ∀ H1 : Heap, H1.length = H.length → Step P o env H1 d (H1 ++ L)) : StepF P o env (.mk H.length) d H (H ++ L) := by
  refine ⟨fun H1 _ h2 => ?_, fun c hc => ?_, fun hl => absurd trivial hl⟩
  · have h2 := h2 trivial
    refine ⟨H1 ++ L, h H1 h2, fun c hc => ?_, fun c hc => ?_, fun _ => by simp [h2], fun hl => absurd trivial hl⟩
    · have hc : H.length ≤ c := hc
      rw [List.getElem?_append_right (by omega), List.getElem?_append_right (by omega), h2]
    · have hc : ¬ H.length ≤ c := hc
      rw [List.getElem?_append_left (by omega)]
  · have hc : ¬ H.length ≤ c := hc
    rw [List.getElem?_append_left (by omega)]
theorem clr_length : ∀ (ws : List Nat) (H : Heap), (clr ws H).length = H.length
  | [], H => rfl
  | b :: ws, H => by simp [clr, clr_length ws]
theorem clr_get : ∀ (ws : List Nat) (H : Heap) (b : Nat), (clr ws H)[b]? = if b ∈ ws then (if b < H.length then some none else none) else H[b]?
  | [], H, b => by simp [clr]
  | c :: ws, H, b => by
    simp only [clr]
    rw [clr_get ws _ b]
    by_cases hb : b ∈ ws
    · simp [hb]
    · by_cases hc : b = c
      · subst hc
        simp [hb, List.getElem?_set]
      · simp only [hb, if_false, List.mem_cons, hc, or_self]
        rw [List.getElem?_set_ne (fun e => hc e.symm)]
theorem StepF.of_fp {rs ws : List Nat} {L : Heap} (h : ∀ H1 : Heap, (∀ b, b ∈ rs ∨ b ∈ ws → H1[b]? = H[b]?) → H1.length = H.length → Step P o env H1 d (clr ws H1 ++ L)) : StepF P o env (.fp rs ws H.length) d H (clr ws H ++ L) := by
  have at1 : ∀ (H1 : Heap) (c : Nat), H1.length = H.length → ¬ (c ∈ ws ∨ H.length ≤ c) → (clr ws H1 ++ L)[c]? = H1[c]? := fun H1 c h2 hc => by
    simp only [not_or, Nat.not_le] at hc
    rw [List.getElem?_append_left (by rw [clr_length]; omega), clr_get, if_neg hc.1]
  refine ⟨fun H1 h1 h2 => ?_, fun c hc => at1 H c rfl hc, fun hl => absurd trivial hl⟩
  have h2 := h2 trivial
  refine ⟨clr ws H1 ++ L, h H1 (fun b hb => h1 b hb) h2, fun c hc => ?_, fun c hc => at1 H1 c h2 hc, fun _ => by simp [clr_length, h2], fun hl => absurd trivial hl⟩
  have hc : c ∈ ws ∨ H.length ≤ c := hc
  by_cases hlt : c < H.length
  · have hm : c ∈ ws := hc.resolve_right (by omega)
    rw [List.getElem?_append_left (by rw [clr_length]; omega), List.getElem?_append_left (by rw [clr_length]; omega), clr_get, clr_get, if_pos hm, if_pos hm, h2]
  · rw [List.getElem?_append_right (by rw [clr_length]; omega), List.getElem?_append_right (by rw [clr_length]; omega), clr_length, clr_length, h2]
structure Foot (H X : Heap) (σ rs ws : List Nat) : Prop where
  all : ∀ b ∈ σ, b ∈ rs ∨ b ∈ ws
  keep : ∀ b ∈ rs, X[b]? = H[b]?
  ws : ∀ b ∈ ws, b ∈ σ
  rs : ∀ b ∈ rs, b ∈ σ
theorem StepF.of_un {σ rs ws : List Nat} {X : Heap} (hX : H.length ≤ X.length) (hf : Foot H X σ rs ws) (h : ∀ H1 : Heap, (∀ b, b ∈ σ → H1[b]? = H[b]?) → H1.length = H.length → Step P o env H1 d (un σ H1 X)) : StepF P o env (.fp rs ws H.length) d H (un σ H X) := by
  have at1 : ∀ (H1 : Heap) (c : Nat), H1.length = H.length → (∀ b, b ∈ rs ∨ b ∈ ws → H1[b]? = H[b]?) → ¬ (c ∈ ws ∨ H.length ≤ c) → (un σ H1 X)[c]? = H1[c]? := fun H1 c h2 h1 hc => by
    rw [un_get (by omega), h2]
    split
    · rename_i hcs
      have hcs : c ∈ σ := hcs.resolve_right fun h => hc (.inr h)
      have hr : c ∈ rs := (hf.all c hcs).resolve_right fun h => hc (.inl h)
      rw [hf.keep c hr, h1 c (.inl hr)]
    · rfl
  refine ⟨fun H1 h1 h2 => ?_, fun c hc => at1 H c rfl (fun _ _ => rfl) hc, fun hl => absurd trivial hl⟩
  have h2 := h2 trivial
  refine ⟨un σ H1 X, h H1 (fun b hb => h1 b (hf.all b hb)) h2, fun c hc => ?_, fun c hc => at1 H1 c h2 h1 hc, fun _ => by rw [un_length (by omega), un_length hX], fun hl => absurd trivial hl⟩
  have hc : c ∈ ws ∨ H.length ≤ c := hc
  have hc2 : c ∈ σ ∨ H.length ≤ c := hc.imp (hf.ws c) id
  rw [un_get (by omega), un_get hX, h2, if_pos hc2, if_pos hc2]
theorem StepF.of_un' {σ rs ws : List Nat} {X : Heap} (hX : X.length = H.length) (hf : Foot H X σ rs ws) (h : ∀ H1 : Heap, (∀ b, b ∈ σ → H1[b]? = H[b]?) → H1.length = H.length → Step P o env H1 d (un σ H1 X)) : StepF P o env (.rw rs ws) d H (un σ H X) := by
  have out : ∀ (H1 : Heap) (c : Nat), H1.length = H.length → H.length ≤ c → (un σ H1 X)[c]? = none ∧ H1[c]? = none := fun H1 c h2 hc => by
    rw [un_get (by omega), h2, if_pos (.inr hc), List.getElem?_eq_none (by omega), List.getElem?_eq_none (by omega)]
    exact ⟨rfl, rfl⟩
  have at1 : ∀ (H1 : Heap) (c : Nat), H1.length = H.length → (∀ b, b ∈ rs ∨ b ∈ ws → H1[b]? = H[b]?) → ¬ (c ∈ ws) → (un σ H1 X)[c]? = H1[c]? := fun H1 c h2 h1 hc => by
    rcases Nat.lt_or_ge c H.length with hlt | hge
    · rw [un_get (by omega), h2]
      split
      · rename_i hcs
        have hcs : c ∈ σ := hcs.resolve_right (by omega)
        have hr : c ∈ rs := (hf.all c hcs).resolve_right hc
        rw [hf.keep c hr, h1 c (.inl hr)]
      · rfl
    · rw [(out H1 c h2 hge).1, (out H1 c h2 hge).2]
  refine ⟨fun H1 h1 h2 => ?_, fun c hc => at1 H c rfl (fun _ _ => rfl) hc, fun _ => by rw [un_length (by omega), hX]⟩
  have h2 := h2 trivial
  refine ⟨un σ H1 X, h H1 (fun b hb => h1 b (hf.all b hb)) h2, fun c hc => ?_, fun c hc => at1 H1 c h2 h1 hc, fun hl => hl.elim, fun _ => by rw [un_length (by omega), hX, h2]⟩
  have hc : c ∈ ws := hc
  have hc2 : c ∈ σ ∨ H.length ≤ c := .inl (hf.ws c hc)
  rw [un_get (by omega), un_get (by omega), h2, if_pos hc2, if_pos hc2]
theorem StepF.of_ra (h : Step P o env H d H) : StepF P o env .ra d H H := ⟨fun H1 h1 _ => by
  have : H1 = H := List.ext_getElem? fun b => h1 b trivial
  subst this
  exact ⟨H1, h, fun b hb => hb.elim, fun b _ => rfl, fun hl => hl.elim, fun _ => rfl⟩, fun b _ => rfl, fun _ => rfl⟩
theorem StepF.of_al (h : Step P o env H d H') : StepF P o env .al d H H' := ⟨fun H1 h1 _ => by
  have : H1 = H := List.ext_getElem? fun b => h1 b trivial
  subst this
  exact ⟨H', h, fun b _ => rfl, fun b hb => absurd trivial hb, fun _ => rfl, fun hl => absurd trivial hl⟩, fun b hb => absurd trivial hb, fun hl => absurd trivial hl⟩
theorem StepF.here {t : Tch} (h : StepF P o env t d H H') : Step P o env H d H' := by
  obtain ⟨H1', h1, h2, h3, _, _⟩ := h.run H (fun _ _ => rfl) (fun _ => rfl)
  have : H1' = H' := List.ext_getElem? fun b => by
    by_cases hb : Wt t b
    · exact h2 b hb
    · rw [h3 b hb, h.keep b hb]
  rw [← this]; exact h1
theorem StepF.congr {t : Tch} {env' : Env} (h : StepF P o env t d H H') (e : ∀ t, env.lookup t = env'.lookup t) : StepF P o env' t d H H' :=
  ⟨fun H1 h1 h2 => by
    obtain ⟨H1', g1, g2⟩ := h.run H1 h1 h2
    exact ⟨H1', fun ρ S w a hS hr => g1 ρ S w a hS fun t ht d' hl => hr t ht d' (by rw [← e]; exact hl), g2⟩, h.keep, h.len⟩
end
def StepAt (P : Program) (nt : Nat) (ops : Array Oper) (o : Oper) (env : Env) (H : Heap) (t : Tch) (env' : Env) (H' : Heap) : Prop :=
  (∀ s, o.dst = some s → s < nt) ∧
  ((∃ j want s, o.guard = some (j, want) ∧ gslot ops j = some s ∧ (env.lookup s = some (.v (.bool (!want))) ∨ env.lookup s = some (.v undef)) ∧ t = .no ∧ H' = H ∧ ∀ s, env'.lookup s = (bindD o.dst (.v undef) env).lookup s) ∨
   ((∀ j want, o.guard = some (j, want) → ∃ s, gslot ops j = some s ∧ env.lookup s = some (.v (.bool want))) ∧
    ∃ d, (∀ s, env'.lookup s = (bindD o.dst d env).lookup s) ∧ StepF P o env t d H H'))
structure Inv (nt : Nat) (ρ : Nat → Nat × Nat) (S : Nat → Prop) (w : World) (H : Heap) (env : Env) (a : Act) : Prop where
  st : St ρ S w H
  env : ∀ t d, env.lookup t = some d → Rd (ctx ρ S w H) d (a.tmps.getD t undef)
  size : a.tmps.size = nt
  defers : a.defers = []
theorem getD_put {a : Act} {dst : Option Tmp} {v : Value} {t : Nat} (h : dst ≠ some t) : (a.put dst v).tmps.getD t undef = a.tmps.getD t undef := by
  cases dst with
  | none => rfl
  | some s =>
    have hs : s ≠ t := fun e => h (by rw [e])
    simp only [Act.put, Array.getD_eq_getD_getElem?, Array.getElem?_setIfInBounds]
    rw [if_neg hs]
theorem getD_put_same {a : Act} {v : Value} {t : Nat} (h : t < a.tmps.size) : (a.put (some t) v).tmps.getD t undef = v := by
  simp [Act.put, Array.getD_eq_getD_getElem?, h]
theorem size_put {a : Act} {dst : Option Tmp} {v : Value} : (a.put dst v).tmps.size = a.tmps.size := by cases dst <;> simp [Act.put]
theorem defers_put {a : Act} {dst : Option Tmp} {v : Value} : (a.put dst v).defers = a.defers := by cases dst <;> rfl
theorem lookup_bindD {dst : Option Nat} {d : D} {env : Env} {s : Nat} : (bindD dst d env).lookup s = if dst = some s then some d else env.lookup s := by
  cases dst with
  | none => simp [bindD]
  | some t =>
    simp only [bindD, List.lookup_cons]
    by_cases h : s = t
    · subst h; simp
    · have h1 : (s == t) = false := by simpa using h
      have h2 : ¬ t = s := fun e => h e.symm
      simp [h1, h2]
theorem yielded_of {ops : Array Oper} {tmps : Array Value} {j s : Nat} {b : Bool} (hs : gslot ops j = some s) (hlt : s < tmps.size) (hv : tmps.getD s undef = .bool b) : yielded ops tmps j = some b := by
  unfold gslot at hs
  have : tmps[s]? = some (.bool b) := by
    rw [Array.getD_eq_getD_getElem?, Array.getElem?_eq_getElem hlt] at hv
    rw [Array.getElem?_eq_getElem hlt]
    simpa using hv
  simp [yielded, hs, this]
theorem unwanted_of {ops : Array Oper} {a : Act} {o : Oper} {j s : Nat} {want : Bool} {E : Ctx} {env : Env} (hgu : o.guard = some (j, want)) (hs : gslot ops j = some s) (hlt : s < a.tmps.size)
    (hl : env.lookup s = some (.v (.bool (!want))) ∨ env.lookup s = some (.v undef)) (hrd : ∀ d, env.lookup s = some d → Rd E d (a.tmps.getD s undef)) : Region.wanted o (yielded ops a.tmps) = false := by
  rcases hl with hl | hl
  · have hv := hrd _ hl
    simp only [Rd] at hv
    have hy := yielded_of hs hlt hv
    simp only [Region.wanted, hgu, hy]; cases want <;> rfl
  · have hv := hrd _ hl
    simp only [Rd] at hv
    have : yielded ops a.tmps j = none := by
      unfold gslot at hs
      have h1 : a.tmps[s]? = some undef := by
        rw [Array.getD_eq_getD_getElem?, Array.getElem?_eq_getElem hlt] at hv
        rw [Array.getElem?_eq_getElem hlt]
        simpa using hv
      simp [yielded, hs, h1, undef]
    simp [Region.wanted, hgu, this]
section
variable {P : Program} {nt : Nat} {ops : Array Oper}
theorem seq_sound {Q : Exit → Act → World → Prop} : ∀ (l : List Oper) (envs : Nat → Env) (Hs : Nat → Heap) (ts : Nat → Tch),
    (∀ j s, gslot ops j = some s → s < nt) → (∀ k o, l[k]? = some o → StepAt P nt ops o (envs k) (Hs k) (ts k) (envs (k + 1)) (Hs (k + 1))) →
    ∀ ρ S w a, Inv nt ρ S w (Hs 0) (envs 0) a → (∀ ρ' S' w' a', Inv nt ρ' S' w' (Hs l.length) (envs l.length) a' → (ctx ρ S w (Hs 0)).le (ctx ρ' S' w' (Hs l.length)) → Q .normal a' w') → wpList P ops Q l a w
  | [], envs, Hs, ts, hg, hs, ρ, S, w, a, hi, hq => hq ρ S w a hi (Ctx.le.refl _)
  | o :: l, envs, Hs, ts, hg, hs, ρ, S, w, a, hi, hq => by
    obtain ⟨hdst, hstep⟩ := hs 0 o (by simp)
    have ih := seq_sound (Q := Q) l (fun k => envs (k + 1)) (fun k => Hs (k + 1)) (fun k => ts (k + 1)) hg (fun k o' hk => hs (k + 1) o' (by simpa using hk))
    rcases hstep with ⟨j, want, s, hgu, hsl, hlk, _, hH, henv⟩ | ⟨hwant, d, henv, hrun⟩
    · have hw : Region.wanted o (yielded ops a.tmps) = false := unwanted_of hgu hsl (by rw [hi.size]; exact hg _ _ hsl) hlk (fun d hd => hi.env s d hd)
      simp only [wpList, hw, Bool.false_eq_true, if_false]
      refine ih ρ S w _ ⟨by rw [Nat.zero_add, hH]; exact hi.st, fun t d ht => ?_, by rw [size_put]; exact hi.size, by rw [defers_put]; exact hi.defers⟩ (fun ρ' S' w' a' h1 h2 => hq ρ' S' w' a' h1 (by rw [Nat.zero_add, hH] at h2; exact h2))
      rw [Nat.zero_add] at ht
      rw [henv, lookup_bindD] at ht
      rw [Nat.zero_add, hH]
      split at ht
      · rename_i hd
        injection ht with ht; subst ht
        rw [hd, getD_put_same (by rw [hi.size]; exact hdst _ hd)]; simp [Rd]
      · rename_i hd
        rw [getD_put hd]; exact hi.env t d ht
    · have hw : Region.wanted o (yielded ops a.tmps) = true := by
        cases hgu : o.guard with
        | none => simp [Region.wanted, hgu]
        | some p =>
          obtain ⟨j, want⟩ := p
          obtain ⟨s, hsl, hlk⟩ := hwant j want hgu
          have hv := hi.env s _ hlk
          simp only [Rd] at hv
          have hy := yielded_of hsl (by rw [hi.size]; exact hg _ _ hsl) hv
          simp [Region.wanted, hgu, hy]
      simp only [wpList, hw, if_true]
      refine .inl ?_
      have hst : Step P o (envs 0) (Hs 0) d (Hs 1) := hrun.here
      refine hst ρ S w a hi.st (fun t _ d' ht => hi.env t d' ht) _ _ fun v ρ' S' w' h1 h2 h3 => ?_
      refine ih ρ' S' w' _ ⟨by rw [Nat.zero_add]; exact h1, fun t d' ht => ?_, by rw [size_put]; exact hi.size, by rw [defers_put]; exact hi.defers⟩ (fun ρ'' S'' w'' a' h4 h5 => hq ρ'' S'' w'' a' h4 (h2.trans (by rw [Nat.zero_add] at h5; exact h5)))
      rw [Nat.zero_add] at ht
      rw [henv, lookup_bindD] at ht
      rw [Nat.zero_add]
      split at ht
      · rename_i hd
        injection ht with ht; subst ht
        rw [hd, getD_put_same (by rw [hi.size]; exact hdst _ hd)]; exact h3
      · rename_i hd
        rw [getD_put hd]; exact (hi.env t d' ht).mono h2 _ _
def slotsOf (ops : Array Oper) (o : Oper) : List Nat := opSlots o.op ++ (match o.guard with | some (j, _) => (gslot ops j).toList | none => [])
def directL (o : Oper) : List Nat := (o.after.toList.filter (Region.binds .any ·)).map (·.on)
def dd : List Nat → List Nat
  | [] => []
  | x :: xs => if (dd xs).contains x then dd xs else x :: dd xs
theorem mem_dd {x : Nat} : ∀ {l : List Nat}, x ∈ dd l → x ∈ l
  | [], h => h
  | y :: l, h => by
    simp only [dd] at h
    split at h
    · exact List.mem_cons_of_mem _ (mem_dd h)
    · rcases List.mem_cons.1 h with h | h
      · exact h ▸ List.mem_cons_self
      · exact List.mem_cons_of_mem _ (mem_dd h)
def predsL : List Oper → List (List Nat) → List (List Nat)
  | [], acc => acc
  | o :: r, acc => predsL r (acc ++ [dd ((directL o).flatMap fun i => i :: acc.getD i [])])
def slotClash (ops : Array Oper) (ok oj : Oper) : Bool :=
  (match ok.dst with | some t => (slotsOf ops oj).contains t | none => false) || (match oj.dst with | some t => (slotsOf ops ok).contains t | none => false)
def sameDst (ok oj : Oper) : Bool := match ok.dst, oj.dst with
  | some s, some t => s == t
  | _, _ => false
def regOk (ops : Array Oper) (ts : List Tch) : Bool :=
  let pr := predsL ops.toList []
  (List.range ops.size).all fun j => match ops[j]? with
    | none => true
    | some oj => (directL oj).all (· < j) && (List.range j).all fun k => match ops[k]? with
      | none => true
      | some ok => (!slotClash ops ok oj || (directL oj).contains k) && !sameDst ok oj && ((pr.getD j []).contains k || !clash (ts.getD k .no) (ts.getD j .no))
def Closed (ops : Array Oper) (listed : Array Bool) : Prop := ∀ j o, ops[j]? = some o → listed.getD j false = true → ∀ i ∈ directL o, listed.getD i false = true
theorem predsL_good : ∀ (l : List Oper) (acc : List (List Nat)), (∀ (i : Nat) (o : Oper), l[i]? = some o → ops[acc.length + i]? = some o) →
    (∀ (i : Nat) (p : List Nat), acc[i]? = some p → ∀ k ∈ p, ∀ listed, Closed ops listed → (∀ (o : Oper), ops[i]? = some o → ∀ e ∈ directL o, listed.getD e false = true) → listed.getD k false = true) →
    ∀ (i : Nat) (p : List Nat), (predsL l acc)[i]? = some p → ∀ k ∈ p, ∀ listed, Closed ops listed → (∀ (o : Oper), ops[i]? = some o → ∀ e ∈ directL o, listed.getD e false = true) → listed.getD k false = true
  | [], acc, _, h => h
  | o :: r, acc, hl, h => by
    refine predsL_good r _ (fun i o' hi => ?_) ?_
    · have := hl (i + 1) o' (by simpa using hi)
      simp only [List.length_append, List.length_singleton]
      rwa [Nat.add_assoc, Nat.add_comm 1 i]
    · intro i p hp k hk listed hc hd
      rcases getElem?_snoc_cases hp with ⟨_, hp⟩ | ⟨rfl, hpe⟩
      · exact h i p hp k hk listed hc hd
      · rw [← hpe] at hk
        have h0 : ops[acc.length]? = some o := by have := hl 0 o (by simp); simpa using this
        have hk := mem_dd hk
        obtain ⟨e, he, hk⟩ := List.mem_flatMap.1 hk
        have hle := hd o h0 e he
        rcases List.mem_cons.1 hk with rfl | hk
        · exact hle
        · rw [List.getD_eq_getElem?_getD] at hk
          cases hacc : acc[e]? with
          | none => simp [hacc] at hk
          | some q =>
            simp only [hacc, Option.getD_some] at hk
            exact h e q hacc k hk listed hc fun oe hoe => hc e oe hoe hle
theorem mem_directL {o : Oper} {k : Nat} : k ∈ directL o ↔ ∃ e ∈ o.after, Region.binds .any e = true ∧ e.on = k := by
  simp only [directL, List.mem_map, List.mem_filter, Array.mem_toList_iff]
  constructor
  · rintro ⟨e, ⟨h1, h2⟩, h3⟩; exact ⟨e, h1, h2, h3⟩
  · rintro ⟨e, h1, h2, h3⟩; exact ⟨e, ⟨h1, h2⟩, h3⟩
end
end Go.VD
end
section
namespace Go.VD
set_option linter.unusedVariables false
set_option linter.unusedSimpArgs false
section
variable {P : Program} {nt : Nat} {ops : Array Oper}
def Holds (ops : Array Oper) (envs : Nat → Env) (listed : Array Bool) (t : Nat) (d : D) : Prop :=
  (∃ k, gslot ops k = some t ∧ listed.getD k false = true ∧ (envs ops.size).lookup t = some d) ∨ ((∀ k, gslot ops k = some t → listed.getD k false = false) ∧ (envs 0).lookup t = some d)
structure Agree (n : Nat) (Hs : Nat → Heap) (ts : Nat → Tch) (listed : Array Bool) (Hc : Heap) : Prop where
  blk : ∀ b v, v ≤ n → (∀ k, k < n → Wt (ts k) b → (listed.getD k false = true ↔ k < v)) → Hc[b]? = (Hs v)[b]?
  len : ∀ v, v ≤ n → (∀ k, k < n → Lw (ts k) → (listed.getD k false = true ↔ k < v)) → Hc.length = (Hs v).length
structure Mid (nt : Nat) (ops : Array Oper) (envs : Nat → Env) (Hs : Nat → Heap) (ts : Nat → Tch) (E0 : Ctx) (listed : Array Bool) (a : Act) (w : World) : Prop where
  size : listed.size = ops.size
  closed : Closed ops listed
  tsize : a.tmps.size = nt
  defers : a.defers = []
  heap : ∃ ρ S Hc, Agree ops.size Hs ts listed Hc ∧ St ρ S w Hc ∧ E0.le (ctx ρ S w Hc) ∧
    ∀ t d, Holds ops envs listed t d → Rd (ctx ρ S w Hc) d (a.tmps.getD t undef)
structure Checked (ops : Array Oper) (ts : Nat → Tch) : Prop where
  back : ∀ j o, ops[j]? = some o → ∀ e ∈ directL o, e < j
  slot : ∀ k j ok oj, k < j → ops[k]? = some ok → ops[j]? = some oj → slotClash ops ok oj = true → k ∈ directL oj
  dst : ∀ k j t, gslot ops k = some t → gslot ops j = some t → k = j
  heap : ∀ k j, k < j → j < ops.size → clash (ts k) (ts j) = true → ∀ listed, Closed ops listed → (∀ o, ops[j]? = some o → ∀ e ∈ directL o, listed.getD e false = true) → listed.getD k false = true
theorem checked_of {tl : List Tch} (h : regOk ops tl = true) : Checked ops (fun k => tl.getD k .no) := by
  have h0 : ∀ j oj, ops[j]? = some oj → (directL oj).all (· < j) = true ∧ ∀ k ok, k < j → ops[k]? = some ok → (slotClash ops ok oj = true → k ∈ directL oj) ∧ sameDst ok oj = false ∧
      (clash (tl.getD k .no) (tl.getD j .no) = true → k ∈ (predsL ops.toList []).getD j []) := by
    intro j oj hj
    have hlt : j < ops.size := (Array.getElem?_eq_some_iff.1 hj).1
    have h1 := List.all_eq_true.1 h j (List.mem_range.2 hlt)
    simp only [hj, Bool.and_eq_true] at h1
    refine ⟨h1.1, fun k ok hk hok => ?_⟩
    have h2 := List.all_eq_true.1 h1.2 k (List.mem_range.2 hk)
    simp only [hok, Bool.and_eq_true, Bool.or_eq_true, Bool.not_eq_true'] at h2
    obtain ⟨⟨h3, h4⟩, h5⟩ := h2
    refine ⟨fun hc => ?_, h4, fun hc => ?_⟩
    · rcases h3 with h3 | h3
      · rw [hc] at h3; cases h3
      · simpa using h3
    · rcases h5 with h5 | h5
      · simpa using h5
      · rw [hc] at h5; cases h5
  have dlt : ∀ k j t, k < j → gslot ops k = some t → gslot ops j = some t → False := by
    intro k j t hkj hk hj
    unfold gslot at hk hj
    cases hok : ops[k]? with
    | none => simp [hok] at hk
    | some ok =>
      cases hoj : ops[j]? with
      | none => simp [hoj] at hj
      | some oj =>
        simp only [hok, Option.bind_some] at hk
        simp only [hoj, Option.bind_some] at hj
        have := ((h0 j oj hoj).2 k ok hkj hok).2.1
        simp [sameDst, hk, hj] at this
  refine ⟨fun j o hj e he => by have := List.all_eq_true.1 (h0 j o hj).1 e he; simpa using this, fun k j ok oj hkj hk hj hc => ((h0 j oj hj).2 k ok hkj hk).1 hc, fun k j t hk hj => ?_, fun k j hkj hlt hc listed hcl hd => ?_⟩
  · rcases Nat.lt_trichotomy k j with hl | hl | hl
    · exact (dlt k j t hl hk hj).elim
    · exact hl
    · exact (dlt j k t hl hj hk).elim
  · have hoj : ops[j]? = some ops[j] := Array.getElem?_eq_getElem hlt
    have hok : ops[k]? = some ops[k] := Array.getElem?_eq_getElem (by omega)
    have hm := ((h0 j _ hoj).2 k _ hkj hok).2.2 hc
    rw [List.getD_eq_getElem?_getD] at hm
    cases hp : (predsL ops.toList [])[j]? with
    | none => simp [hp] at hm
    | some p =>
      simp only [hp, Option.getD_some] at hm
      exact predsL_good ops.toList [] (fun i o hi => by simpa using hi) (fun i p hp => by simp at hp) j p hp k hm listed hcl hd
theorem getD_true_false {listed : Array Bool} {i : Nat} (hi : i < listed.size) : listed.getD i true = listed.getD i false := by
  simp [hi]
theorem draw_sound {Q : Exit → Act → World → Prop} {id : Nat} {envs : Nat → Env} {Hs : Nat → Heap} {ts : Nat → Tch} (hm : P.follows .mixedOrders = true) (hck : Checked ops ts)
    (hg : ∀ j s, gslot ops j = some s → s < nt) (hs : ∀ k o, ops[k]? = some o → StepAt P nt ops o (envs k) (Hs k) (ts k) (envs (k + 1)) (Hs (k + 1)))
    {ρ : Nat → Nat × Nat} {S : Nat → Prop} {w : World} {a : Act} (hi : Inv nt ρ S w (Hs 0) (envs 0) a)
    (hq : ∀ ρ' S' w' a', Inv nt ρ' S' w' (Hs ops.size) (envs ops.size) a' → (ctx ρ S w (Hs 0)).le (ctx ρ' S' w' (Hs ops.size)) → Q .normal a' w') : (Code.region id ops true).wp P Q a w := by
  have frame : ∀ (n i : Nat) (t : Nat), i + n ≤ ops.size → (∀ k, i ≤ k → k < i + n → gslot ops k ≠ some t) → (envs (i + n)).lookup t = (envs i).lookup t := by
    intro n
    induction n with
    | zero => intro i t _ _; rfl
    | succ n ih =>
      intro i t hle hno
      have hlt : i + n < ops.size := by omega
      have ho : ops[i + n]? = some ops[i + n] := Array.getElem?_eq_getElem hlt
      obtain ⟨_, hst⟩ := hs (i + n) _ ho
      have hne : ¬ (ops[i + n]).dst = some t := fun e => hno (i + n) (by omega) (by omega) (by simp [gslot, ho, e])
      have : (envs (i + n + 1)).lookup t = (envs (i + n)).lookup t := by
        rcases hst with ⟨_, _, _, _, _, _, _, _, henv⟩ | ⟨_, d, henv, _⟩
        · rw [henv, lookup_bindD, if_neg hne]
        · rw [henv, lookup_bindD, if_neg hne]
      rw [← Nat.add_assoc, this]
      exact ih i t (by omega) fun k h1 h2 => hno k h1 (by omega)
  have stepK : ∀ i, i < ops.size → (∀ b, ¬ Wt (ts i) b → (Hs (i + 1))[b]? = (Hs i)[b]?) ∧ (¬ Lw (ts i) → (Hs (i + 1)).length = (Hs i).length) := by
    intro i hlt
    have ho : ops[i]? = some ops[i] := Array.getElem?_eq_getElem hlt
    obtain ⟨_, hst⟩ := hs i _ ho
    rcases hst with ⟨_, _, _, _, _, _, _, h, _⟩ | ⟨_, d, _, h⟩
    · exact ⟨fun b _ => by rw [h], fun _ => by rw [h]⟩
    · exact ⟨h.keep, h.len⟩
  have bconst : ∀ (n i b : Nat), i + n ≤ ops.size → (∀ k, i ≤ k → k < i + n → ¬ Wt (ts k) b) → (Hs (i + n))[b]? = (Hs i)[b]? := by
    intro n
    induction n with
    | zero => intro i b _ _; rfl
    | succ n ih =>
      intro i b hle hno
      rw [← Nat.add_assoc, (stepK (i + n) (by omega)).1 b (hno (i + n) (by omega) (by omega))]
      exact ih i b (by omega) fun k h1 h2 => hno k h1 (by omega)
  have lconst : ∀ (n i : Nat), i + n ≤ ops.size → (∀ k, i ≤ k → k < i + n → ¬ Lw (ts k)) → (Hs (i + n)).length = (Hs i).length := by
    intro n
    induction n with
    | zero => intro i _ _; rfl
    | succ n ih =>
      intro i hle hno
      rw [← Nat.add_assoc, (stepK (i + n) (by omega)).2 (hno (i + n) (by omega) (by omega))]
      exact ih i (by omega) fun k h1 h2 => hno k h1 (by omega)
  have gs_lt : ∀ k t, gslot ops k = some t → k < ops.size := by
    intro k t h
    unfold gslot at h
    rcases Nat.lt_or_ge k ops.size with hlt | hge
    · exact hlt
    · rw [Array.getElem?_eq_none hge] at h; cases h
  have reads : ∀ (listed : Array Bool) (j : Nat) (oj : Oper), Closed ops listed → ops[j]? = some oj → listed.getD j false = false → (∀ e ∈ directL oj, listed.getD e false = true) →
      ∀ t ∈ slotsOf ops oj, ∀ d, (envs j).lookup t = some d → Holds ops envs listed t d := by
    intro listed j oj hcl hoj hun hd t ht d hl
    have hjlt : j < ops.size := (Array.getElem?_eq_some_iff.1 hoj).1
    by_cases hw : ∃ k, gslot ops k = some t
    · obtain ⟨k, hk⟩ := hw
      have hklt := gs_lt k t hk
      have huniq : ∀ k', gslot ops k' = some t → k' = k := fun k' h => hck.dst k' k t h hk
      have hok : ops[k]? = some ops[k] := Array.getElem?_eq_getElem hklt
      have hdk : (ops[k]).dst = some t := by simpa [gslot, hok] using hk
      rcases Nat.lt_trichotomy k j with hkj | hkj | hkj
      · have hclash : slotClash ops ops[k] oj = true := by simp [slotClash, hdk, ht]
        have := hd k (hck.slot k j _ oj hkj hok hoj hclash)
        refine .inl ⟨k, hk, this, ?_⟩
        have e1 := frame (ops.size - (k + 1)) (k + 1) t (by omega) (fun k' h1 h2 e => by have := huniq k' e; omega)
        have e2 := frame (j - (k + 1)) (k + 1) t (by omega) (fun k' h1 h2 e => by have := huniq k' e; omega)
        rw [show k + 1 + (ops.size - (k + 1)) = ops.size by omega] at e1
        rw [show k + 1 + (j - (k + 1)) = j by omega] at e2
        rw [e1, ← e2]; exact hl
      · subst hkj
        refine .inr ⟨fun k' h => by rw [huniq k' h]; exact hun, ?_⟩
        have e := frame k 0 t (by omega) (fun k' h1 h2 e => by have := huniq k' e; omega)
        rw [Nat.zero_add] at e
        rw [← e]; exact hl
      · have hclash : slotClash ops oj ops[k] = true := by
          simp only [slotClash, Bool.or_eq_true]
          right
          simp [hdk, ht]
        have hdir := hck.slot j k oj _ hkj hoj hok hclash
        refine .inr ⟨fun k' h => ?_, ?_⟩
        · rw [huniq k' h]
          cases hlk : listed.getD k false with
          | false => rfl
          | true => have := hcl k _ hok hlk j hdir; rw [hun] at this; cases this
        · have e := frame j 0 t (by omega) (fun k' h1 h2 e => by have := huniq k' e; omega)
          rw [Nat.zero_add] at e
          rw [← e]; exact hl
    · refine .inr ⟨fun k h => absurd ⟨k, h⟩ hw, ?_⟩
      have e := frame j 0 t (by omega) (fun k' h1 h2 e => hw ⟨k', e⟩)
      rw [Nat.zero_add] at e
      rw [← e]; exact hl
  have key : ∀ (fuel : Nat) (listed : Array Bool) (a' : Act) (w' : World), Mid nt ops envs Hs ts (ctx ρ S w (Hs 0)) listed a' w' →
      ((List.range ops.size).filter fun j => !listed.getD j true).length ≤ fuel → wpAny P .any ops Q fuel listed a' w' := by
    have final : ∀ (listed : Array Bool) (a' : Act) (w' : World), Mid nt ops envs Hs ts (ctx ρ S w (Hs 0)) listed a' w' → Region.ready .any ops listed = [] → Q .normal a' w' := by
      intro listed a' w' hmid hr
      have hall : ∀ j, j < ops.size → listed.getD j false = true := by
        intro j
        induction j using Nat.strongRecOn with
        | _ j ih =>
          intro hj
          cases hlj : listed.getD j false with
          | true => rfl
          | false =>
            exfalso
            have ho : ops[j]? = some ops[j] := Array.getElem?_eq_getElem hj
            have : j ∈ Region.ready .any ops listed := mem_ready.2 ⟨by rw [getD_true_false (by rw [hmid.size]; exact hj)]; exact hlj, _, ho, fun e he hb => by
              have hlt := hck.back j _ ho e.on (mem_directL.2 ⟨e, he, hb, rfl⟩)
              exact ih e.on hlt (by omega)⟩
            rw [hr] at this; cases this
      obtain ⟨ρ', S', Hc, hag, hSt, hle, hrd⟩ := hmid.heap
      have hHv : Hs ops.size = Hc := List.ext_getElem? fun b => (hag.blk b ops.size (Nat.le_refl _) fun k hk _ => ⟨fun _ => hk, fun _ => hall k hk⟩).symm
      refine hq ρ' S' w' a' ⟨by rw [hHv]; exact hSt, fun t d hl => ?_, hmid.tsize, hmid.defers⟩ (by rw [hHv]; exact hle)
      rw [hHv]
      refine hrd t d ?_
      by_cases hw : ∃ k, gslot ops k = some t
      · obtain ⟨k, hk⟩ := hw
        exact .inl ⟨k, hk, hall k (gs_lt k t hk), hl⟩
      · refine .inr ⟨fun k h => absurd ⟨k, h⟩ hw, ?_⟩
        have e := frame ops.size 0 t (by omega) (fun k' h1 h2 e => hw ⟨k', e⟩)
        rw [Nat.zero_add] at e
        rw [← e]; exact hl
    intro fuel
    induction fuel with
    | zero =>
      intro listed a' w' hmid hlen
      have hr : Region.ready .any ops listed = [] := by
        apply List.eq_nil_iff_forall_not_mem.2
        intro j hj
        obtain ⟨h1, o, ho, _⟩ := mem_ready.1 hj
        have hlt := (Array.getElem?_eq_some_iff.1 ho).1
        have : j ∈ (List.range ops.size).filter fun j => !listed.getD j true := List.mem_filter.2 ⟨List.mem_range.2 hlt, by rw [h1]; rfl⟩
        rw [List.eq_nil_of_length_eq_zero (Nat.le_zero.1 hlen)] at this
        cases this
      exact ⟨hr, final _ _ _ hmid hr⟩
    | succ fuel ih =>
      intro listed a' w' hmid hlen
      refine ⟨final _ _ _ hmid, fun j hj => ?_⟩
      obtain ⟨hun, oj, hoj, hpre⟩ := mem_ready.1 hj
      have hjlt : j < ops.size := (Array.getElem?_eq_some_iff.1 hoj).1
      have hun' : listed.getD j false = false := by rw [← getD_true_false (by rw [hmid.size]; exact hjlt)]; exact hun
      have hd : ∀ e ∈ directL oj, listed.getD e false = true := fun e he => by
        obtain ⟨ed, h1, h2, h3⟩ := mem_directL.1 he
        rw [← h3]; exact hpre ed h1 h2
      have hreads := reads listed j oj hmid.closed hoj hun' hd
      obtain ⟨hdst, hstep⟩ := hs j oj hoj
      obtain ⟨ρ', S', Hc, hag, hSt, hle, hrd⟩ := hmid.heap
      have hset : ∀ k, k ≠ j → (listed.setIfInBounds j true).getD k false = listed.getD k false := fun k hk => getD_set_ne false (fun e => hk e.symm)
      have hsetj : (listed.setIfInBounds j true).getD j false = true := by simp [hmid.size, hjlt]
      have hclosed' : Closed ops (listed.setIfInBounds j true) := by
        intro k o hk hl e he
        by_cases hkj : k = j
        · subst hkj
          have : o = oj := Option.some.inj (hk.symm.trans hoj)
          subst this
          by_cases hej : e = k
          · rw [hej]; exact hsetj
          · rw [hset e hej]; exact hd e he
        · rw [hset k hkj] at hl
          have := hmid.closed k o hk hl e he
          by_cases hej : e = j
          · rw [hej]; exact hsetj
          · rw [hset e hej]; exact this
      have hlen' : ((List.range ops.size).filter fun k => !(listed.setIfInBounds j true).getD k true).length ≤ fuel := by
        have hsub : ((List.range ops.size).filter fun k => !(listed.setIfInBounds j true).getD k true) = ((List.range ops.size).filter fun k => !listed.getD k true).filter fun k => k != j := by
          rw [List.filter_filter]
          apply List.filter_congr
          intro k hk
          have hklt := List.mem_range.1 hk
          by_cases hkj : k = j
          · subst hkj; simp [hmid.size, hklt]
          · rw [getD_set_ne true (fun e => hkj e.symm)]; simp [hkj]
        rw [hsub]
        have hmem : j ∈ (List.range ops.size).filter fun k => !listed.getD k true := List.mem_filter.2 ⟨List.mem_range.2 hjlt, by rw [hun]; rfl⟩
        have : (((List.range ops.size).filter fun k => !listed.getD k true).filter fun k => k != j).length < ((List.range ops.size).filter fun k => !listed.getD k true).length := by
          apply List.length_filter_lt_length_iff_exists.2
          exact ⟨j, hmem, by simp⟩
        omega
      have hgsj : ∀ t, gslot ops j = some t ↔ oj.dst = some t := fun t => by simp [gslot, hoj]
      have slots' : ∀ (E E' : Ctx) (v' : Value) (d0 : D), E.le E' → Rd E' d0 v' → (∀ s, (envs (j + 1)).lookup s = (bindD oj.dst d0 (envs j)).lookup s) → (∀ t d, Holds ops envs listed t d → Rd E d (a'.tmps.getD t undef)) →
          ∀ t d, Holds ops envs (listed.setIfInBounds j true) t d → Rd E' d ((a'.put oj.dst v').tmps.getD t undef) := by
        intro E E' v' d0 hEE hd0 henv hrd t d hh
        by_cases htj : oj.dst = some t
        · rw [htj, getD_put_same (by rw [hmid.tsize]; exact hdst _ htj)]
          rcases hh with ⟨k, hk, _, hl⟩ | ⟨hno, _⟩
          · have hkj : k = j := hck.dst k j t hk ((hgsj t).2 htj)
            have e1 := frame (ops.size - (j + 1)) (j + 1) t (by omega) (fun k' h1 h2 e => by have := hck.dst k' j t e ((hgsj t).2 htj); omega)
            rw [show j + 1 + (ops.size - (j + 1)) = ops.size by omega] at e1
            rw [e1, henv, lookup_bindD, if_pos htj] at hl
            injection hl with hl; subst hl
            exact hd0
          · have := hno j ((hgsj t).2 htj); rw [hsetj] at this; cases this
        · rw [getD_put htj]
          refine (hrd t d ?_).mono hEE _ _
          have hne : ∀ k, gslot ops k = some t → k ≠ j := fun k hk e => htj ((hgsj t).1 (e ▸ hk))
          rcases hh with ⟨k, hk, h1, h2⟩ | ⟨hno, h2⟩
          · exact .inl ⟨k, hk, by rw [← hset k (hne k hk)]; exact h1, h2⟩
          · exact .inr ⟨fun k hk => by rw [← hset k (hne k hk)]; exact hno k hk, h2⟩
      unfold wpOp
      simp only [hoj]
      have gslotIn : ∀ jg want s, oj.guard = some (jg, want) → gslot ops jg = some s → s ∈ slotsOf ops oj := fun jg want s h1 h2 => by
        simp [slotsOf, h1, h2]
      rcases hstep with ⟨jg, want, s, hgu, hsl, hlk, ht0, hH, henv⟩ | ⟨hwant, d, henv, hrun⟩
      · have hw : Region.wanted oj (yielded ops a'.tmps) = false := unwanted_of hgu hsl (by rw [hmid.tsize]; exact hg _ _ hsl) hlk (fun d hd => hrd s d (hreads s (gslotIn jg want s hgu hsl) d hd))
        simp only [hw, Bool.false_eq_true, if_false]
        refine ih _ _ _ ⟨by simp [hmid.size], hclosed', by rw [size_put]; exact hmid.tsize, by rw [defers_put]; exact hmid.defers, ρ', S', Hc, ?_, hSt, hle, slots' _ _ undef (.v undef) (Ctx.le.refl _) (by simp [Rd]) henv hrd⟩ hlen'
        refine ⟨fun b v hv hh => hag.blk b v hv fun k hk hwk => ?_, fun v hv hh => hag.len v hv fun k hk hwk => ?_⟩
        · have hkj : k ≠ j := fun e => by subst e; rw [ht0] at hwk; exact hwk.elim
          rw [← hset k hkj]; exact hh k hk hwk
        · have hkj : k ≠ j := fun e => by subst e; rw [ht0] at hwk; exact hwk.elim
          rw [← hset k hkj]; exact hh k hk hwk
      · have hw : Region.wanted oj (yielded ops a'.tmps) = true := by
          cases hgu : oj.guard with
          | none => simp [Region.wanted, hgu]
          | some p =>
            obtain ⟨jg, want⟩ := p
            obtain ⟨s, hsl, hlk⟩ := hwant jg want hgu
            have hvv := hrd s _ (hreads s (gslotIn jg want s hgu hsl) _ hlk)
            simp only [Rd] at hvv
            have hy := yielded_of hsl (by rw [hmid.tsize]; exact hg _ _ hsl) hvv
            simp [Region.wanted, hgu, hy]
        simp only [hw, if_true]
        refine .inl ?_
        have hops : ∀ t ∈ opSlots oj.op, ∀ d', (envs j).lookup t = some d' → Rd (ctx ρ' S' w' Hc) d' (a'.tmps.getD t undef) := fun t ht d' hl =>
          hrd t d' (hreads t (by simp [slotsOf, ht]) d' hl)
        have early : ∀ k, k < j → clash (ts k) (ts j) = true → listed.getD k false = true := fun k hk hcl =>
          hck.heap k j hk hjlt hcl listed hmid.closed fun o ho e' he' => by
            have : o = oj := Option.some.inj (ho.symm.trans hoj)
            subst this; exact hd e' he'
        have late : ∀ k, k < ops.size → j < k → clash (ts j) (ts k) = true → listed.getD k false = true → False := fun k hk hjk hcl hlk => by
          have := hck.heap j k hjk hk hcl listed hmid.closed (fun o ho' e' he' => hmid.closed k o ho' hlk e' he')
          rw [hun'] at this; cases this
        obtain ⟨H1', hstp, hw1, hw2, hl1, hl2⟩ := hrun.run Hc (fun b hb => hag.blk b j (by omega) fun k hk hwk => by
            constructor
            · intro hlk
              rcases Nat.lt_trichotomy k j with h | h | h
              · exact h
              · subst h; rw [hun'] at hlk; cases hlk
              · exact (late k hk h (clash_rw hb hwk) hlk).elim
            · intro hlt; exact early k hlt (clash_wr hwk hb))
          (fun hl => hag.len j (by omega) fun k hk hwk => by
            constructor
            · intro hlk
              rcases Nat.lt_trichotomy k j with h | h | h
              · exact h
              · subst h; rw [hun'] at hlk; cases hlk
              · exact (late k hk h (clash_rl hl hwk) hlk).elim
            · intro hlt; exact early k hlt (clash_lr hwk hl))
        refine hstp ρ' S' w' a' hSt hops _ _ fun u ρ'' S'' w'' h1 h2 h3 => ?_
        refine ih _ _ _ ⟨by simp [hmid.size], hclosed', by rw [size_put]; exact hmid.tsize, by rw [defers_put]; exact hmid.defers, ρ'', S'', H1', ?_, h1, hle.trans h2, slots' _ _ u d h2 h3 henv hrd⟩ hlen'
        refine ⟨fun b v hv hh => ?_, fun v hv hh => ?_⟩
        · by_cases hwj : Wt (ts j) b
          · rw [hw1 b hwj]
            have hjv : j < v := (hh j hjlt hwj).1 hsetj
            have := bconst (v - (j + 1)) (j + 1) b (by omega) (fun k h1 h2 hwk => by
              have hlk := (hh k (by omega) hwk).2 (by omega)
              rw [hset k (by omega)] at hlk
              exact late k (by omega) (by omega) (clash_ww hwj hwk) hlk)
            rw [show j + 1 + (v - (j + 1)) = v by omega] at this
            exact this.symm
          · rw [hw2 b hwj]
            refine hag.blk b v hv fun k hk hwk => ?_
            have hkj : k ≠ j := fun e => by subst e; exact hwj hwk
            rw [← hset k hkj]; exact hh k hk hwk
        · by_cases hwj : Lw (ts j)
          · rw [hl1 hwj]
            have hjv : j < v := (hh j hjlt hwj).1 hsetj
            have := lconst (v - (j + 1)) (j + 1) (by omega) (fun k h1 h2 hwk => by
              have hlk := (hh k (by omega) hwk).2 (by omega)
              rw [hset k (by omega)] at hlk
              exact late k (by omega) (by omega) (clash_ll hwj hwk) hlk)
            rw [show j + 1 + (v - (j + 1)) = v by omega] at this
            exact this.symm
          · rw [hl2 hwj]
            refine hag.len v hv fun k hk hwk => ?_
            have hkj : k ≠ j := fun e => by subst e; exact hwj hwk
            rw [← hset k hkj]; exact hh k hk hwk
  refine wp_region_any hm (key ops.size _ _ _ ?_ ?_)
  · have hdrew : Grow w w.drew := Grow.drew w
    have hsub : ∀ k, S k → k < w.heap.size := fun k hk => (hi.st.sub k hk).1
    refine ⟨by simp, fun j o _ hl => ?_, hi.size, hi.defers, ρ, S, Hs 0, ⟨fun b v hv hh => ?_, fun v hv hh => ?_⟩, hi.st.grow hdrew, hdrew.le hsub, fun t d hh => ?_⟩
    · rw [getD_replicate_false] at hl; cases hl
    · have := bconst v 0 b (by omega) (fun k _ h2 hwk => by
        have := (hh k (by omega) hwk).2 (by omega)
        rw [getD_replicate_false] at this; cases this)
      rw [Nat.zero_add] at this; exact this.symm
    · have := lconst v 0 (by omega) (fun k _ h2 hwk => by
        have := (hh k (by omega) hwk).2 (by omega)
        rw [getD_replicate_false] at this; cases this)
      rw [Nat.zero_add] at this; exact this.symm
    · rcases hh with ⟨k, _, hl, _⟩ | ⟨_, hl⟩
      · rw [getD_replicate_false] at hl; cases hl
      · exact (hi.env t d hl).mono (hdrew.le hsub) _ _
  · exact Nat.le_trans (List.length_filter_le _ _) (by simp)
end
end Go.VD
end
