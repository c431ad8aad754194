/- The rule of a loop; from a body's conditions to a contract; handing own blocks to a callee. -/
import Derived.Test.YthnhfkpihbjddaaVn
import Derived.Deep.LoopGhost
namespace Go.VD
set_option linter.unusedVariables false
set_option linter.unusedSimpArgs false

/-- env has every slot of the second list -/
def Has (env : Env) : Env → Prop
  | [] => True
  | (t, d) :: r => env.lookup t = some d ∧ Has env r
theorem Has.sub {env : Env} : ∀ {r : Env}, Has env r → ∀ t d, r.lookup t = some d → env.lookup t = some d
  | [], _, t, d, h => by simp at h
  | (s, e) :: r, hh, t, d, h => by
    simp only [Has] at hh
    rw [List.lookup_cons] at h
    split at h
    · rename_i ht
      have ht : t = s := by simpa using ht
      injection h with h; subst h; subst ht
      exact hh.1
    · exact hh.2.sub t d h

section
variable {P : Program} {T : Tbl} {nt : Nat}

theorem Inv.sub {ρ : Nat → Nat × Nat} {S : Nat → Prop} {w : World} {H : Heap} {env env' : Env} {a : Act} (h : Inv nt ρ S w H env a) (hh : Has env env') : Inv nt ρ S w H env' a :=
  ⟨h.st, fun t d ht => h.env t d (hh.sub t d ht), h.size, h.defers⟩
theorem DW.weaken {c : Code} {Q : Exit → Env → Heap → Prop} {env env' : Env} {H : Heap} (hh : Has env env') (h : DW P nt c Q env' H) : DW P nt c Q env H :=
  fun ρ S w a hi => h ρ S w a (hi.sub hh)
theorem DW.mono {c : Code} {Q Q' : Exit → Env → Heap → Prop} {env : Env} {H : Heap} (h : DW P nt c Q env H) (hq : ∀ e env H, Q e env H → Q' e env H) : DW P nt c Q' env H :=
  fun ρ S w a hi => wp_mono (h ρ S w a hi) fun e a' w' ⟨env', H', ρ', S', h1, h2⟩ => ⟨env', H', ρ', S', hq _ _ _ h1, h2⟩

/-- A LOOP: a state for each x with J x; a round leads to one of smaller measure, or out. -/
theorem DW.loop {α : Type} (J : α → Prop) (I : α → Env) (HI : α → Heap) (μ : α → Nat) {c : Code} {Q : Exit → Env → Heap → Prop} {env : Env} {H : Heap} (x0 : α) (h0 : J x0) (hh : Has env (I x0)) (hH : H = HI x0)
    (round : ∀ x, J x → DW P nt c (thenQ (fun env' H' => ∃ y, μ y < μ x ∧ J y ∧ Has env' (I y) ∧ H' = HI y) Q) (I x) (HI x)) : DW P nt (.loop c) Q env H := by
  intro ρ S w a hi
  subst hH
  refine wp_loop_ghost (fun n a' w' => ∃ x ρ' S', μ x = n ∧ J x ∧ Inv nt ρ' S' w' (HI x) (I x) a' ∧ (ctx ρ S w (HI x0)).le (ctx ρ' S' w' (HI x))) (μ x0) ⟨x0, ρ, S, rfl, h0, hi.sub hh, Ctx.le.refl _⟩ ?_
  rintro n a' w' ⟨x, ρ', S', rfl, hx, hi', hle⟩
  refine wp_mono (round x hx ρ' S' w' a' hi') fun e a'' w'' ⟨env', H', ρ'', S'', h1, h2, h3⟩ => ?_
  cases e with
  | normal =>
    obtain ⟨y, hy, hJ, hhas, rfl⟩ := h1
    exact ⟨μ y, hy, y, ρ'', S'', rfl, hJ, h2.sub hhas, hle.trans h3⟩
  | _ => exact ⟨env', H', ρ'', S'', h1, h2, hle.trans h3⟩

/-! ### Giving up own blocks: what they hold is from now on only read -/
mutual
def sealD (H : Heap) : D → Option (D × Prop)
  | .v x => some (.v x, True)
  | .ro n xs => some (.ro n xs, True)
  | .rp xs j => some (.rp xs j, True)
  | .sl b off n c => match blkAt H b with
    | some blk => match c with
      | .exact _ es => some (.ro n ((blk.cs.drop off).take (n * es)), NamelessL blk.cs ∧ 0 < es ∧ off + n * es ≤ blk.cs.length)
      | .toEnd es => some (.ro n ((blk.cs.drop off).take (n * es)), NamelessL blk.cs ∧ 0 < es ∧ off + n * es ≤ blk.cs.length)
    | none => none
  | .ptr b off => match blkAt H b with
    | some blk => some (.rp blk.cs off, NamelessL blk.cs ∧ 0 < blk.cs.length)
    | none => none
  | .agg xs => match sealL H xs with
    | some (ys, c) => some (.agg ys, c)
    | none => none
  | .tup xs => match sealL H xs with
    | some (ys, c) => some (.tup ys, c)
    | none => none
  | .ifc t d => match sealD H d with
    | some (e, c) => some (.ifc t e, c)
    | none => none
  | .fn f k caps => match sealL H caps with
    | some (ys, c) => some (.fn f k ys, c)
    | none => none
def sealL (H : Heap) : List D → Option (List D × Prop)
  | [] => some ([], True)
  | d :: ds => match sealD H d, sealL H ds with
    | some (e, c), some (es, cs) => some (e :: es, c ∧ cs)
    | _, _ => none
end

/-- the blocks that are named -/
def namesD : D → List Nat
  | .sl b _ _ _ => [b]
  | .ptr b _ => [b]
  | .agg xs => namesA xs
  | .tup xs => namesA xs
  | .ifc _ d => namesD d
  | .fn _ _ caps => namesA caps
  | _ => []
where namesA : List D → List Nat
  | [] => []
  | d :: ds => namesD d ++ namesA ds

section
variable {ρ : Nat → Nat × Nat} {S : Nat → Prop} {w : World} {H : Heap}

/-- the cells of a block, read where the block is only read -/
theorem blk_at {S' : Nat → Prop} {H' : Heap} {b : Nat} {blk : Blk} (hS : St ρ S w H) (hb : H[b]? = some (some blk)) (hit : blk.ty ≠ itTy) (hz : 0 < (ρ b).2) (hn : NamelessL blk.cs) (hsub : ∀ k, S k → S' k) : RdAt (ctx ρ S' w H') blk.cs ⟨(ρ b).1, 0, none⟩ 0 := by
  obtain ⟨cur, hk⟩ := hS.blk b blk hb hz
  refine RdAt.mk _ _ _ fun i d hi => ?_
  obtain ⟨u, hu, ho, hd⟩ := hk.pre.get _ _ i d hi
  refine ⟨u, ?_, ho, hd.moveS hsub (NamelessL.iff.1 hn d (List.mem_of_getElem? hi))⟩
  rw [Nat.zero_add]
  have hadd : (⟨(ρ b).1, 0, none⟩ : Addr).add i = ⟨(ρ b).1, i, none⟩ := by unfold Addr.add; split <;> simp_all
  have hh := hk.heap.cells hit
  simp only [ctx] at hh
  show w.cell? _ = _
  rw [hadd, cell_of_row w (ρ b).1 i cur blk.ty (0, 0) hh]
  rw [List.getElem?_take] at hu
  split at hu
  · simpa using hu
  · cases hu

theorem addr_off (id off : Nat) : (⟨id, 0, none⟩ : Addr).add off = ⟨id, off, none⟩ := by unfold Addr.add; split <;> simp_all

mutual
theorem sealD_rdN {N : Nat → Prop} {S' : Nat → Prop} {H' : Heap} (hS : St ρ S w H) (hsub : ∀ k, S k → S' k) (hlive : ∀ b blk, N b → H[b]? = some (some blk) → 0 < (ρ b).2 → S' (ρ b).1) :
    ∀ (d : D) (e : D) (c : Prop) (u : Value), (∀ b ∈ namesD d, N b) → sealD H d = some (e, c) → c → Rd (ctx ρ S w H) d u → Rd (ctx ρ S' w H') e u
  | .v x, e, c, u, hN, h, hc, hr => by simp only [sealD] at h; obtain ⟨rfl, rfl⟩ := pair_inj h; simpa [Rd] using hr
  | .ro n xs, e, c, u, hN, h, hc, hr => by
    simp only [sealD] at h; obtain ⟨rfl, rfl⟩ := pair_inj h
    have hn : NamelessL xs := by simp only [Rd] at hr; exact hr.1
    exact hr.moveS hsub (by simpa [Nameless] using hn)
  | .rp xs j, e, c, u, hN, h, hc, hr => by
    simp only [sealD] at h; obtain ⟨rfl, rfl⟩ := pair_inj h
    have hn : NamelessL xs := by simp only [Rd] at hr; exact hr.1
    exact hr.moveS hsub (by simpa [Nameless] using hn)
  | .sl b off n cp, e, c, u, hN, h, hc, hr => by
    have main : ∀ es A cap blk, blkAt H b = some blk → u = .slice A n cap → n ≤ cap → cap ≤ maxLen → (0 < cap → A = some ⟨(ρ b).1, off, none⟩) → NamelessL blk.cs → 0 < es → off + n * es ≤ blk.cs.length →
        Rd (ctx ρ S' w H') (.ro n ((blk.cs.drop off).take (n * es))) u := by
      intro es A cap blk hb hu hn hm hA hnl hes hlen
      have hit := blkAt_ty hb; have hb := blkAt_some hb
      simp only [Rd]
      refine ⟨(hnl.drop _).take _, A, cap, hu, hn, hm, fun h0 => ?_⟩
      have hz : 0 < (ρ b).2 := by
        rcases Nat.eq_zero_or_pos (ρ b).2 with hz | hz
        · have := hS.none b blk hb hz
          rw [this] at hlen
          have : 0 < n * es := Nat.mul_pos h0 hes
          simp at hlen; omega
        · exact hz
      refine ⟨_, hA (by omega), hlive b blk (hN b (by simp [namesD])) hb hz, ?_⟩
      have hat := (blk_at (S' := S') (H' := H') hS hb hit hz hnl hsub).drop off
      rw [addr_off] at hat
      exact hat.take _
    simp only [sealD] at h
    split at h
    · rename_i blk hb
      cases cp with
      | exact c0 es =>
        simp only at h; obtain ⟨rfl, rfl⟩ := pair_inj h
        simp only [Rd] at hr
        obtain ⟨_, h1, h2, A, h3, h4⟩ := hr
        exact main es A c0 blk hb h3 h1 h2 h4 hc.1 hc.2.1 hc.2.2
      | toEnd es =>
        simp only at h; obtain ⟨rfl, rfl⟩ := pair_inj h
        simp only [Rd] at hr
        obtain ⟨_, A, c0, h3, h1, h2, _, h4⟩ := hr
        exact main es A c0 blk hb h3 h1 h2 h4 hc.1 hc.2.1 hc.2.2
    · cases h
  | .ptr b off, e, c, u, hN, h, hc, hr => by
    simp only [sealD] at h
    split at h
    · rename_i blk hb
      obtain ⟨rfl, rfl⟩ := pair_inj h
      have hit := blkAt_ty hb; have hb := blkAt_some hb
      simp only [Rd] at hr ⊢
      have hz : 0 < (ρ b).2 := by
        rcases Nat.eq_zero_or_pos (ρ b).2 with hz | hz
        · have := hS.none b blk hb hz
          rw [this] at hc; simp at hc
        · exact hz
      refine ⟨hc.1, ⟨(ρ b).1, 0, none⟩, ?_, hlive b blk (hN b (by simp [namesD])) hb hz, blk_at hS hb hit hz hc.1 hsub⟩
      rw [addr_off]; exact hr.2
    · cases h
  | .agg xs, e, c, u, hN, h, hc, hr => by
    simp only [sealD] at h
    split at h
    · rename_i ys c' hl
      obtain ⟨rfl, rfl⟩ := pair_inj h
      simp only [Rd] at hr ⊢
      obtain ⟨us, hu, hr⟩ := hr
      exact ⟨us, hu, sealL_rdN hS hsub hlive xs ys _ us.toList (by simpa only [namesD] using hN) hl hc hr⟩
    · cases h
  | .tup xs, e, c, u, hN, h, hc, hr => by
    simp only [sealD] at h
    split at h
    · rename_i ys c' hl
      obtain ⟨rfl, rfl⟩ := pair_inj h
      simp only [Rd] at hr ⊢
      obtain ⟨us, hu, hr⟩ := hr
      exact ⟨us, hu, sealT_rdN hS hsub hlive xs ys _ us.toList (by simpa only [namesD] using hN) hl hc hr⟩
    · cases h
  | .ifc t d, e, c, u, hN, h, hc, hr => by
    simp only [sealD] at h
    split at h
    · rename_i y c' hl
      obtain ⟨rfl, rfl⟩ := pair_inj h
      simp only [Rd] at hr ⊢
      obtain ⟨x, hu, hr⟩ := hr
      exact ⟨x, hu, sealD_rdN hS hsub hlive d y _ x (by simpa only [namesD] using hN) hl hc hr⟩
    · cases h
  | .fn f k caps, e, c, u, hN, h, hc, hr => by
    simp only [sealD] at h
    split at h
    · rename_i ys c' hl
      obtain ⟨rfl, rfl⟩ := pair_inj h
      simp only [Rd] at hr ⊢
      obtain ⟨fs, us, hu, hk, hr⟩ := hr
      exact ⟨fs, us, hu, hk, sealT_rdN hS hsub hlive caps ys _ _ (by simpa only [namesD] using hN) hl hc hr⟩
    · cases h
theorem sealL_rdN {N : Nat → Prop} {S' : Nat → Prop} {H' : Heap} (hS : St ρ S w H) (hsub : ∀ k, S k → S' k) (hlive : ∀ b blk, N b → H[b]? = some (some blk) → 0 < (ρ b).2 → S' (ρ b).1) :
    ∀ (ds : List D) (es : List D) (c : Prop) (us : List Value), (∀ b ∈ namesD.namesA ds, N b) → sealL H ds = some (es, c) → c → RdL (ctx ρ S w H) ds us → RdL (ctx ρ S' w H') es us
  | [], es, c, us, hN, h, hc, hr => by simp only [sealL] at h; obtain ⟨rfl, rfl⟩ := pair_inj h; simpa [RdL] using hr
  | d :: ds, es, c, us, hN, h, hc, hr => by
    simp only [sealL] at h
    split at h
    · rename_i e c1 es' c2 h1 h2
      obtain ⟨rfl, rfl⟩ := pair_inj h
      simp only [RdL] at hr ⊢
      obtain ⟨u, r, hu, ho, hd, hr⟩ := hr
      exact ⟨u, r, hu, ho, sealD_rdN hS hsub hlive d e _ u (fun b hb => hN b (by simp [namesD.namesA, hb])) h1 hc.1 hd, sealL_rdN hS hsub hlive ds es' _ r (fun b hb => hN b (by simp [namesD.namesA, hb])) h2 hc.2 hr⟩
    · cases h
theorem sealT_rdN {N : Nat → Prop} {S' : Nat → Prop} {H' : Heap} (hS : St ρ S w H) (hsub : ∀ k, S k → S' k) (hlive : ∀ b blk, N b → H[b]? = some (some blk) → 0 < (ρ b).2 → S' (ρ b).1) :
    ∀ (ds : List D) (es : List D) (c : Prop) (us : List Value), (∀ b ∈ namesD.namesA ds, N b) → sealL H ds = some (es, c) → c → RdT (ctx ρ S w H) ds us → RdT (ctx ρ S' w H') es us
  | [], es, c, us, hN, h, hc, hr => by simp only [sealL] at h; obtain ⟨rfl, rfl⟩ := pair_inj h; simpa [RdT] using hr
  | d :: ds, es, c, us, hN, h, hc, hr => by
    simp only [sealL] at h
    split at h
    · rename_i e c1 es' c2 h1 h2
      obtain ⟨rfl, rfl⟩ := pair_inj h
      simp only [RdT] at hr ⊢
      obtain ⟨u, r, hu, hd, hr⟩ := hr
      exact ⟨u, r, hu, sealD_rdN hS hsub hlive d e _ u (fun b hb => hN b (by simp [namesD.namesA, hb])) h1 hc.1 hd, sealT_rdN hS hsub hlive ds es' _ r (fun b hb => hN b (by simp [namesD.namesA, hb])) h2 hc.2 hr⟩
    · cases h
end
theorem sealD_rd {S' : Nat → Prop} {H' : Heap} (hS : St ρ S w H) (hsub : ∀ k, S k → S' k) (hlive : ∀ b blk, H[b]? = some (some blk) → 0 < (ρ b).2 → S' (ρ b).1) (d : D) (e : D) (c : Prop) (u : Value) (h : sealD H d = some (e, c)) (hc : c) (hr : Rd (ctx ρ S w H) d u) : Rd (ctx ρ S' w H') e u :=
  sealD_rdN (N := fun _ => True) hS hsub (fun b blk _ => hlive b blk) d e c u (fun _ _ => trivial) h hc hr
theorem sealT_rd {S' : Nat → Prop} {H' : Heap} (hS : St ρ S w H) (hsub : ∀ k, S k → S' k) (hlive : ∀ b blk, H[b]? = some (some blk) → 0 < (ρ b).2 → S' (ρ b).1) (ds es : List D) (c : Prop) (us : List Value) (h : sealL H ds = some (es, c)) (hc : c) (hr : RdT (ctx ρ S w H) ds us) : RdT (ctx ρ S' w H') es us :=
  sealT_rdN (N := fun _ => True) hS hsub (fun b blk _ => hlive b blk) ds es c us (fun _ _ => trivial) h hc hr
end
end
end Go.VD
