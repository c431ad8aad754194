/- Calls that take own blocks for good, while other own blocks keep reading them. -/
import Derived.Test.YthnhfkpihbjddaaEg
namespace Go.VD
set_option linter.unusedVariables false
set_option linter.unusedSimpArgs false

/-- a block whose cells name blocks that are given up holds what they held -/
def reB (H : Heap) (ns : List Nat) (blk : Blk) : Blk × Prop :=
  bif (namesD.namesA blk.cs).isEmpty then (blk, True) else
    bif (namesD.namesA blk.cs).all (fun b => ns.contains b) then (match sealL H blk.cs with
      | some (cs, c) => (⟨blk.ty, cs, blk.full⟩, c ∧ NamelessL cs)
      | none => (blk, True))
    else (blk, True)
def reH (H : Heap) (ns : List Nat) : Heap → Heap
  | [] => []
  | none :: r => none :: reH H ns r
  | some blk :: r => some (reB H ns blk).1 :: reH H ns r
def reC (H : Heap) (ns : List Nat) : Heap → Prop
  | [] => True
  | none :: r => reC H ns r
  | some blk :: r => (reB H ns blk).2 ∧ reC H ns r
theorem reH_length (H : Heap) (ns : List Nat) : ∀ L : Heap, (reH H ns L).length = L.length
  | [] => rfl
  | none :: r => by simp only [reH, List.length_cons, reH_length H ns r]
  | some blk :: r => by simp only [reH, List.length_cons, reH_length H ns r]
theorem reH_get (H : Heap) (ns : List Nat) : ∀ (L : Heap) (b : Nat) (blk2 : Blk), (reH H ns L)[b]? = some (some blk2) → ∃ blk, L[b]? = some (some blk) ∧ blk2 = (reB H ns blk).1
  | [], b, blk2, h => by simp [reH] at h
  | none :: r, 0, blk2, h => by simp [reH] at h
  | none :: r, b + 1, blk2, h => by simp only [reH, List.getElem?_cons_succ] at h ⊢; exact reH_get H ns r b blk2 h
  | some blk :: r, 0, blk2, h => by simp only [reH, List.getElem?_cons_zero, Option.some.injEq] at h ⊢; exact ⟨blk, rfl, h.symm⟩
  | some blk :: r, b + 1, blk2, h => by simp only [reH, List.getElem?_cons_succ] at h ⊢; exact reH_get H ns r b blk2 h
theorem reC_get (H : Heap) (ns : List Nat) : ∀ (L : Heap) (b : Nat) (blk : Blk), reC H ns L → L[b]? = some (some blk) → (reB H ns blk).2
  | [], b, blk, _, h => by simp at h
  | none :: r, 0, blk, _, h => by simp at h
  | none :: r, b + 1, blk, hc, h => by simp only [List.getElem?_cons_succ] at h; exact reC_get H ns r b blk hc h
  | some x :: r, 0, blk, hc, h => by simp only [List.getElem?_cons_zero, Option.some.injEq] at h; subst h; exact hc.1
  | some x :: r, b + 1, blk, hc, h => by simp only [List.getElem?_cons_succ] at h; exact reC_get H ns r b blk hc.2 h
/-- either nothing changes, or the cells are read anew -/
theorem reB_cases (H : Heap) (ns : List Nat) (blk : Blk) : (reB H ns blk).1 = blk ∨ ∃ cs c, (∀ b ∈ namesD.namesA blk.cs, b ∈ ns) ∧ sealL H blk.cs = some (cs, c) ∧ reB H ns blk = (⟨blk.ty, cs, blk.full⟩, c ∧ NamelessL cs) := by
  unfold reB
  cases h1 : (namesD.namesA blk.cs).isEmpty with
  | true => exact .inl rfl
  | false =>
    cases h2 : (namesD.namesA blk.cs).all (fun b => ns.contains b) with
    | false => exact .inl rfl
    | true =>
      cases h3 : sealL H blk.cs with
      | none => exact .inl rfl
      | some p =>
        obtain ⟨cs, c⟩ := p
        refine .inr ⟨cs, c, fun b hb => ?_, rfl, rfl⟩
        have := List.all_eq_true.1 h2 b hb
        simpa using this

theorem PureJ.handC {P : Program} {f : FuncId} {ds ds' : List D} {d : D} {H : Heap} {c : Prop} (h : PureJ P f ds' d) (hs : sealL H ds = some (ds', c)) (hc : c) (hre : reC H (namesD.namesA ds) (dropN H (namesD.namesA ds))) :
    CallJ P f ds H d (reH H (namesD.namesA ds) (dropN H (namesD.namesA ds))) := by
  refine ⟨h.callable, fun ρ S w vals hS hv => ?_⟩
  let S0 : Nat → Prop := fun k => S k ∨ ∃ b blk, b ∈ namesD.namesA ds ∧ H[b]? = some (some blk) ∧ 0 < (ρ b).2 ∧ (ρ b).1 = k
  have hD := dropN_drops (namesD.namesA ds) H
  have hsub : ∀ k, S0 k → k < w.heap.size := fun k hk => by
    rcases hk with h | ⟨b, blk, _, h2, h3, h4⟩
    · exact (hS.sub k h).1
    · exact hS.lt ⟨b, blk, h2, h3, h4⟩
  have h1 : RdT (ctx ρ S0 w []) ds' vals :=
    sealT_rdN (N := fun b => b ∈ namesD.namesA ds) (S' := S0) (H' := []) hS (fun k h => .inl h) (fun b blk hn hb hz => .inr ⟨b, blk, hn, hb, hz, rfl⟩) ds ds' c vals (fun b hb => hb) hs hc hv
  have hlive : ∀ k, Live ρ (reH H (namesD.namesA ds) (dropN H (namesD.namesA ds))) k → Live ρ (dropN H (namesD.namesA ds)) k := by
    rintro k ⟨b, blk2, hb, hz, e⟩
    obtain ⟨blk, hb1, _⟩ := reH_get _ _ _ b blk2 hb
    exact ⟨b, blk, hb1, hz, e⟩
  have hfix0 : ∀ k, S0 k → Fix (ctx ρ S0 w (dropN H (namesD.namesA ds))) k := fun k hk => ⟨hsub k hk, fun ⟨b, blk, hb, hz, e⟩ => by
    have hb0 := hD.2 b blk hb
    rcases hk with hk | ⟨b', blk', hn, hb', hz', e'⟩
    · exact (hS.sub k hk).2 ⟨b, blk, hb0, hz, e⟩
    · have := hS.inj b b' _ _ hb0 hb' hz hz' (e.trans e'.symm)
      subst this
      exact dropN_gone _ H b hn blk hb⟩
  refine (h.call S0 w vals hsub (hS.glob.mono (fun _ h => .inl h) fun _ _ => rfl) (RdT.move h.args h1)).mono fun e w' ⟨v, S', he, hg, g1, g2, g3, g4⟩ => ?_
  have hSd := hS.drops hD
  have hfix : ∀ k, S' k → Fix (ctx ρ S' w' (reH H (namesD.namesA ds) (dropN H (namesD.namesA ds)))) k := fun k hk => ⟨g3 k hk, fun hl => by
    have hl := hlive k hl
    rcases g2 k hk with h | h
    · exact (hfix0 k h).2 hl
    · have := hSd.lt hl; omega⟩
  have hle : (ctx ρ S w H).le (ctx ρ S' w' (reH H (namesD.namesA ds) (dropN H (namesD.namesA ds)))) :=
    ⟨Nat.le_of_eq (by show H.length = (reH _ _ _).length; rw [reH_length]; exact hD.1.symm), fun _ _ => rfl, fun k hk => g1 k (.inl hk), fun k hk => hg.heap k (hS.sub k hk).1, fun k hk => by
      rcases g2 k hk with (h | ⟨b, blk, _, h2, h3, h4⟩) | h
      · exact .inl h
      · exact .inr (.inl ⟨b, blk, h2, h3, h4⟩)
      · exact .inr (.inr h),
     fun k hk => ⟨Nat.lt_of_lt_of_le hk.1 hg.size, fun hl => by
      obtain ⟨b, blk, hb, hz, e⟩ := hlive k hl
      exact hk.2 ⟨b, blk, hD.2 b blk hb, hz, e⟩⟩, fun k hk => hg.heap k hk.1, hg.size, hg.os, hg.tape, hg.output⟩
  refine ⟨v, ρ, S', he, ⟨hfix, fun b blk2 hb hz => ?_, fun b blk2 hb hz => ?_, fun b b' blk blk' hb hb' hz hz' e => ?_, hS.glob.mono (fun _ h => g1 _ (.inl h)) hle.keep⟩, hle, Rd.move h.res g4⟩
  · obtain ⟨blk, hb1, rfl⟩ := reH_get _ _ _ b blk2 hb
    have h0 := hS.none b blk (hD.2 b blk hb1) hz
    unfold reB
    rw [h0]
    exact h0
  · obtain ⟨blk, hb1, rfl⟩ := reH_get _ _ _ b blk2 hb
    obtain ⟨cur, hcur⟩ := hS.blk b blk (hD.2 b blk hb1) hz
    have hcell := reC_get _ _ _ b blk hre hb1
    rcases reB_cases H (namesD.namesA ds) blk with e | ⟨cs, c2, hn, hs2, e⟩
    · rw [e]
      exact ⟨cur, (hg.heap _ hcur.lt).trans hcur.heap, hcur.size, hcur.pre.mono hle _ _, hcur.full⟩
    · rw [e] at hcell
      have hl := sealL_length hs2
      have h2 : RdL (ctx ρ S0 w []) cs (cur.toList.take blk.cs.length) :=
        sealL_rdN (N := fun b => b ∈ namesD.namesA ds) (S' := S0) (H' := []) hS (fun k h => .inl h) (fun b blk hn hb hz => .inr ⟨b, blk, hn, hb, hz, rfl⟩) blk.cs cs c2 _ hn hs2 hcell.1 hcur.pre
      rw [e]
      refine ⟨cur, (hg.heap _ hcur.lt).trans hcur.heap, hcur.size, ?_, fun hf => by rw [hl]; exact hcur.full hf⟩
      simp only
      rw [hl]
      exact RdL.nameless (E := ctx ρ S0 w []) (fun k hk => g1 k hk) (fun k hk => hg.heap k (hsub k hk)) cs _ hcell.2 h2
  · obtain ⟨x, hx, _⟩ := reH_get _ _ _ b blk hb
    obtain ⟨y, hy, _⟩ := reH_get _ _ _ b' blk' hb'
    exact hS.inj b b' _ _ (hD.2 _ _ hx) (hD.2 _ _ hy) hz hz' e
/-- a pure function that takes own blocks for good -/
def addKeep (f : FuncId) (e : Ent) (r : CallO) : CallO := fun g ds H K => bif Nat.beq g f then (match sealL H ds with
  | some (ds', c') => match e ds' with
    | some (d, c) => some ((c' ∧ c ∧ reC H (namesD.namesA ds) (dropN H (namesD.namesA ds))) ∧ K d (reH H (namesD.namesA ds) (dropN H (namesD.namesA ds))) .al)
    | none => none
  | none => none) else r g ds H K
theorem addKeep_ok {P : Program} {f : FuncId} {e : Ent} {r : CallO} (he : EntOk P f e) (hr : CallOK P r) : CallOK P (addKeep f e r) := by
  intro g ds H K p h hp
  unfold addKeep at h
  cases hg : Nat.beq g f with
  | false => rw [hg] at h; exact hr g ds H K p h hp
  | true =>
    rw [hg] at h
    have hgf : g = f := Nat.eq_of_beq_eq_true hg
    subst hgf
    simp only [cond_true] at h
    split at h
    · rename_i ds' c' hs
      split at h
      · rename_i d c hd
        injection h with h; subst h
        obtain ⟨⟨hc', hc, hre⟩, hk⟩ := hp
        exact .own d _ ((he ds' d c hd hc).handC hs hc' hre) hk
      · cases h
    · cases h
end Go.VD
