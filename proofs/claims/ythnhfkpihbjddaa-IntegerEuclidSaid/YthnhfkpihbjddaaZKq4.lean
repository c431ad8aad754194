import Derived.Test.YthnhfkpihbjddaaZKq3
import Derived.Deep.LoopGhost
import Derived.Test.YthnhfkpihbjddaaProg
import Derived.ProofKit
import Derived.OpenShut
import Derived.Carry
import Derived.ChangeSame
section
namespace Go.VD
set_option linter.unusedVariables false
set_option linter.unusedSimpArgs false
def Has (env : Env) : Env → Prop
  | [] => True
  | (t, d) :: r => env.lookup t = some d ∧ Has env r
theorem Has.sub {env : Env} : ∀ {r : Env}, Has env r → ∀ t d, r.lookup t = some d → env.lookup t = some d
  | [], _, t, d, h => by simp at h
  | (s, e) :: r, hh, t, d, h => by
    simp only [Has] at hh
    rw [List.lookup_cons] at h
    split at h
    · rename_i ht
      have ht : t = s := by simpa using ht
      injection h with h; subst h; subst ht
      exact hh.1
    · exact hh.2.sub t d h
section
variable {P : Program} {T : Tbl} {nt : Nat}
theorem Inv.sub {ρ : Nat → Nat × Nat} {S : Nat → Prop} {w : World} {H : Heap} {env env' : Env} {a : Act} (h : Inv nt ρ S w H env a) (hh : Has env env') : Inv nt ρ S w H env' a :=
  ⟨h.st, fun t d ht => h.env t d (hh.sub t d ht), h.size, h.defers⟩
theorem DW.weaken {c : Code} {Q : Exit → Env → Heap → Prop} {env env' : Env} {H : Heap} (hh : Has env env') (h : DW P nt c Q env' H) : DW P nt c Q env H :=
  fun ρ S w a hi => h ρ S w a (hi.sub hh)
theorem DW.mono {c : Code} {Q Q' : Exit → Env → Heap → Prop} {env : Env} {H : Heap} (h : DW P nt c Q env H) (hq : ∀ e env H, Q e env H → Q' e env H) : DW P nt c Q' env H :=
  fun ρ S w a hi => wp_mono (h ρ S w a hi) fun e a' w' ⟨env', H', ρ', S', h1, h2⟩ => ⟨env', H', ρ', S', hq _ _ _ h1, h2⟩
theorem DW.loop {α : Type} (J : α → Prop) (I : α → Env) (HI : α → Heap) (μ : α → Nat) {c : Code} {Q : Exit → Env → Heap → Prop} {env : Env} {H : Heap} (x0 : α) (h0 : J x0) (hh : Has env (I x0)) (hH : H = HI x0)
    (round : ∀ x, J x → DW P nt c (thenQ (fun env' H' => ∃ y, μ y < μ x ∧ J y ∧ Has env' (I y) ∧ H' = HI y) Q) (I x) (HI x)) : DW P nt (.loop c) Q env H := by
  intro ρ S w a hi
  subst hH
  refine wp_loop_ghost (fun n a' w' => ∃ x ρ' S', μ x = n ∧ J x ∧ Inv nt ρ' S' w' (HI x) (I x) a' ∧ (ctx ρ S w (HI x0)).le (ctx ρ' S' w' (HI x))) (μ x0) ⟨x0, ρ, S, rfl, h0, hi.sub hh, Ctx.le.refl _⟩ ?_
  rintro n a' w' ⟨x, ρ', S', rfl, hx, hi', hle⟩
  refine wp_mono (round x hx ρ' S' w' a' hi') fun e a'' w'' ⟨env', H', ρ'', S'', h1, h2, h3⟩ => ?_
  cases e with
  | normal =>
    obtain ⟨y, hy, hJ, hhas, rfl⟩ := h1
    exact ⟨μ y, hy, y, ρ'', S'', rfl, hJ, h2.sub hhas, hle.trans h3⟩
  | _ => exact ⟨env', H', ρ'', S'', h1, h2, hle.trans h3⟩
mutual
def sealD (H : Heap) : D → Option (D × Prop)
  | .v x => some (.v x, True)
  | .ro n xs => some (.ro n xs, True)
  | .rp xs j => some (.rp xs j, True)
  | .sl b off n c => match blkAt H b with
    | some blk => match c with
      | .exact _ es => some (.ro n ((blk.cs.drop off).take (n * es)), NamelessL blk.cs ∧ 0 < es ∧ off + n * es ≤ blk.cs.length)
      | .toEnd es => some (.ro n ((blk.cs.drop off).take (n * es)), NamelessL blk.cs ∧ 0 < es ∧ off + n * es ≤ blk.cs.length)
    | none => none
  | .ptr b off => match blkAt H b with
    | some blk => some (.rp blk.cs off, NamelessL blk.cs ∧ 0 < blk.cs.length)
    | none => none
  | .agg xs => match sealL H xs with
    | some (ys, c) => some (.agg ys, c)
    | none => none
  | .tup xs => match sealL H xs with
    | some (ys, c) => some (.tup ys, c)
    | none => none
  | .ifc t d => match sealD H d with
    | some (e, c) => some (.ifc t e, c)
    | none => none
  | .fn f k caps => match sealL H caps with
    | some (ys, c) => some (.fn f k ys, c)
    | none => none
def sealL (H : Heap) : List D → Option (List D × Prop)
  | [] => some ([], True)
  | d :: ds => match sealD H d, sealL H ds with
    | some (e, c), some (es, cs) => some (e :: es, c ∧ cs)
    | _, _ => none
end
def namesD : D → List Nat
  | .sl b _ _ _ => [b]
  | .ptr b _ => [b]
  | .agg xs => namesA xs
  | .tup xs => namesA xs
  | .ifc _ d => namesD d
  | .fn _ _ caps => namesA caps
  | _ => []
where namesA : List D → List Nat
  | [] => []
  | d :: ds => namesD d ++ namesA ds
section
variable {ρ : Nat → Nat × Nat} {S : Nat → Prop} {w : World} {H : Heap}
theorem blk_at {S' : Nat → Prop} {H' : Heap} {b : Nat} {blk : Blk} (hS : St ρ S w H) (hb : H[b]? = some (some blk)) (hz : 0 < (ρ b).2) (hn : NamelessL blk.cs) (hsub : ∀ k, S k → S' k) : RdAt (ctx ρ S' w H') blk.cs ⟨(ρ b).1, 0, none⟩ 0 := by
  obtain ⟨cur, hk⟩ := hS.blk b blk hb hz
  refine RdAt.mk _ _ _ fun i d hi => ?_
  obtain ⟨u, hu, ho, hd⟩ := hk.pre.get _ _ i d hi
  refine ⟨u, ?_, ho, hd.moveS hsub (NamelessL.iff.1 hn d (List.mem_of_getElem? hi))⟩
  rw [Nat.zero_add]
  have hadd : (⟨(ρ b).1, 0, none⟩ : Addr).add i = ⟨(ρ b).1, i, none⟩ := by unfold Addr.add; split <;> simp_all
  have hh := hk.heap
  simp only [ctx] at hh
  show w.cell? _ = _
  rw [hadd, cell_of_row w (ρ b).1 i cur blk.ty (0, 0) hh]
  rw [List.getElem?_take] at hu
  split at hu
  · simpa using hu
  · cases hu
theorem addr_off (id off : Nat) : (⟨id, 0, none⟩ : Addr).add off = ⟨id, off, none⟩ := by unfold Addr.add; split <;> simp_all
mutual
theorem sealD_rdN {N : Nat → Prop} {S' : Nat → Prop} {H' : Heap} (hS : St ρ S w H) (hsub : ∀ k, S k → S' k) (hlive : ∀ b blk, N b → H[b]? = some (some blk) → 0 < (ρ b).2 → S' (ρ b).1) :
    ∀ (d : D) (e : D) (c : Prop) (u : Value), (∀ b ∈ namesD d, N b) → sealD H d = some (e, c) → c → Rd (ctx ρ S w H) d u → Rd (ctx ρ S' w H') e u
  | .v x, e, c, u, hN, h, hc, hr => by simp only [sealD] at h; obtain ⟨rfl, rfl⟩ := pair_inj h; simpa [Rd] using hr
  | .ro n xs, e, c, u, hN, h, hc, hr => by
    simp only [sealD] at h; obtain ⟨rfl, rfl⟩ := pair_inj h
    have hn : NamelessL xs := by simp only [Rd] at hr; exact hr.1
    exact hr.moveS hsub (by simpa [Nameless] using hn)
  | .rp xs j, e, c, u, hN, h, hc, hr => by
    simp only [sealD] at h; obtain ⟨rfl, rfl⟩ := pair_inj h
    have hn : NamelessL xs := by simp only [Rd] at hr; exact hr.1
    exact hr.moveS hsub (by simpa [Nameless] using hn)
  | .sl b off n cp, e, c, u, hN, h, hc, hr => by
    have main : ∀ es A cap blk, blkAt H b = some blk → u = .slice A n cap → n ≤ cap → cap ≤ maxLen → (0 < cap → A = some ⟨(ρ b).1, off, none⟩) → NamelessL blk.cs → 0 < es → off + n * es ≤ blk.cs.length →
        Rd (ctx ρ S' w H') (.ro n ((blk.cs.drop off).take (n * es))) u := by
      intro es A cap blk hb hu hn hm hA hnl hes hlen
      have hb := blkAt_some hb
      simp only [Rd]
      refine ⟨(hnl.drop _).take _, A, cap, hu, hn, hm, fun h0 => ?_⟩
      have hz : 0 < (ρ b).2 := by
        rcases Nat.eq_zero_or_pos (ρ b).2 with hz | hz
        · have := hS.none b blk hb hz
          rw [this] at hlen
          have : 0 < n * es := Nat.mul_pos h0 hes
          simp at hlen; omega
        · exact hz
      refine ⟨_, hA (by omega), hlive b blk (hN b (by simp [namesD])) hb hz, ?_⟩
      have hat := (blk_at (S' := S') (H' := H') hS hb hz hnl hsub).drop off
      rw [addr_off] at hat
      exact hat.take _
    simp only [sealD] at h
    split at h
    · rename_i blk hb
      cases cp with
      | exact c0 es =>
        simp only at h; obtain ⟨rfl, rfl⟩ := pair_inj h
        simp only [Rd] at hr
        obtain ⟨_, h1, h2, A, h3, h4⟩ := hr
        exact main es A c0 blk hb h3 h1 h2 h4 hc.1 hc.2.1 hc.2.2
      | toEnd es =>
        simp only at h; obtain ⟨rfl, rfl⟩ := pair_inj h
        simp only [Rd] at hr
        obtain ⟨_, A, c0, h3, h1, h2, _, h4⟩ := hr
        exact main es A c0 blk hb h3 h1 h2 h4 hc.1 hc.2.1 hc.2.2
    · cases h
  | .ptr b off, e, c, u, hN, h, hc, hr => by
    simp only [sealD] at h
    split at h
    · rename_i blk hb
      obtain ⟨rfl, rfl⟩ := pair_inj h
      have hb := blkAt_some hb
      simp only [Rd] at hr ⊢
      have hz : 0 < (ρ b).2 := by
        rcases Nat.eq_zero_or_pos (ρ b).2 with hz | hz
        · have := hS.none b blk hb hz
          rw [this] at hc; simp at hc
        · exact hz
      refine ⟨hc.1, ⟨(ρ b).1, 0, none⟩, ?_, hlive b blk (hN b (by simp [namesD])) hb hz, blk_at hS hb hz hc.1 hsub⟩
      rw [addr_off]; exact hr.2
    · cases h
  | .agg xs, e, c, u, hN, h, hc, hr => by
    simp only [sealD] at h
    split at h
    · rename_i ys c' hl
      obtain ⟨rfl, rfl⟩ := pair_inj h
      simp only [Rd] at hr ⊢
      obtain ⟨us, hu, hr⟩ := hr
      exact ⟨us, hu, sealL_rdN hS hsub hlive xs ys _ us.toList (by simpa only [namesD] using hN) hl hc hr⟩
    · cases h
  | .tup xs, e, c, u, hN, h, hc, hr => by
    simp only [sealD] at h
    split at h
    · rename_i ys c' hl
      obtain ⟨rfl, rfl⟩ := pair_inj h
      simp only [Rd] at hr ⊢
      obtain ⟨us, hu, hr⟩ := hr
      exact ⟨us, hu, sealT_rdN hS hsub hlive xs ys _ us.toList (by simpa only [namesD] using hN) hl hc hr⟩
    · cases h
  | .ifc t d, e, c, u, hN, h, hc, hr => by
    simp only [sealD] at h
    split at h
    · rename_i y c' hl
      obtain ⟨rfl, rfl⟩ := pair_inj h
      simp only [Rd] at hr ⊢
      obtain ⟨x, hu, hr⟩ := hr
      exact ⟨x, hu, sealD_rdN hS hsub hlive d y _ x (by simpa only [namesD] using hN) hl hc hr⟩
    · cases h
  | .fn f k caps, e, c, u, hN, h, hc, hr => by
    simp only [sealD] at h
    split at h
    · rename_i ys c' hl
      obtain ⟨rfl, rfl⟩ := pair_inj h
      simp only [Rd] at hr ⊢
      obtain ⟨fs, us, hu, hk, hr⟩ := hr
      exact ⟨fs, us, hu, hk, sealT_rdN hS hsub hlive caps ys _ _ (by simpa only [namesD] using hN) hl hc hr⟩
    · cases h
theorem sealL_rdN {N : Nat → Prop} {S' : Nat → Prop} {H' : Heap} (hS : St ρ S w H) (hsub : ∀ k, S k → S' k) (hlive : ∀ b blk, N b → H[b]? = some (some blk) → 0 < (ρ b).2 → S' (ρ b).1) :
    ∀ (ds : List D) (es : List D) (c : Prop) (us : List Value), (∀ b ∈ namesD.namesA ds, N b) → sealL H ds = some (es, c) → c → RdL (ctx ρ S w H) ds us → RdL (ctx ρ S' w H') es us
  | [], es, c, us, hN, h, hc, hr => by simp only [sealL] at h; obtain ⟨rfl, rfl⟩ := pair_inj h; simpa [RdL] using hr
  | d :: ds, es, c, us, hN, h, hc, hr => by
    simp only [sealL] at h
    split at h
    · rename_i e c1 es' c2 h1 h2
      obtain ⟨rfl, rfl⟩ := pair_inj h
      simp only [RdL] at hr ⊢
      obtain ⟨u, r, hu, ho, hd, hr⟩ := hr
      exact ⟨u, r, hu, ho, sealD_rdN hS hsub hlive d e _ u (fun b hb => hN b (by simp [namesD.namesA, hb])) h1 hc.1 hd, sealL_rdN hS hsub hlive ds es' _ r (fun b hb => hN b (by simp [namesD.namesA, hb])) h2 hc.2 hr⟩
    · cases h
theorem sealT_rdN {N : Nat → Prop} {S' : Nat → Prop} {H' : Heap} (hS : St ρ S w H) (hsub : ∀ k, S k → S' k) (hlive : ∀ b blk, N b → H[b]? = some (some blk) → 0 < (ρ b).2 → S' (ρ b).1) :
    ∀ (ds : List D) (es : List D) (c : Prop) (us : List Value), (∀ b ∈ namesD.namesA ds, N b) → sealL H ds = some (es, c) → c → RdT (ctx ρ S w H) ds us → RdT (ctx ρ S' w H') es us
  | [], es, c, us, hN, h, hc, hr => by simp only [sealL] at h; obtain ⟨rfl, rfl⟩ := pair_inj h; simpa [RdT] using hr
  | d :: ds, es, c, us, hN, h, hc, hr => by
    simp only [sealL] at h
    split at h
    · rename_i e c1 es' c2 h1 h2
      obtain ⟨rfl, rfl⟩ := pair_inj h
      simp only [RdT] at hr ⊢
      obtain ⟨u, r, hu, hd, hr⟩ := hr
      exact ⟨u, r, hu, sealD_rdN hS hsub hlive d e _ u (fun b hb => hN b (by simp [namesD.namesA, hb])) h1 hc.1 hd, sealT_rdN hS hsub hlive ds es' _ r (fun b hb => hN b (by simp [namesD.namesA, hb])) h2 hc.2 hr⟩
    · cases h
end
theorem sealD_rd {S' : Nat → Prop} {H' : Heap} (hS : St ρ S w H) (hsub : ∀ k, S k → S' k) (hlive : ∀ b blk, H[b]? = some (some blk) → 0 < (ρ b).2 → S' (ρ b).1) (d : D) (e : D) (c : Prop) (u : Value) (h : sealD H d = some (e, c)) (hc : c) (hr : Rd (ctx ρ S w H) d u) : Rd (ctx ρ S' w H') e u :=
  sealD_rdN (N := fun _ => True) hS hsub (fun b blk _ => hlive b blk) d e c u (fun _ _ => trivial) h hc hr
theorem sealT_rd {S' : Nat → Prop} {H' : Heap} (hS : St ρ S w H) (hsub : ∀ k, S k → S' k) (hlive : ∀ b blk, H[b]? = some (some blk) → 0 < (ρ b).2 → S' (ρ b).1) (ds es : List D) (c : Prop) (us : List Value) (h : sealL H ds = some (es, c)) (hc : c) (hr : RdT (ctx ρ S w H) ds us) : RdT (ctx ρ S' w H') es us :=
  sealT_rdN (N := fun _ => True) hS hsub (fun b blk _ => hlive b blk) ds es c us (fun _ _ => trivial) h hc hr
end
end
end Go.VD
end
section
namespace Go.VD
set_option linter.unusedVariables false
set_option linter.unusedSimpArgs false
def resD (T : Tbl) (env : Env) (H : Heap) : List ResultVar → Option (List D × Prop)
  | [] => some ([], True)
  | .tmp t :: r => match env.lookup t, resD T env H r with
    | some d, some (ds, c) => some (d :: ds, c)
    | _, _ => none
  | .cell a ty :: r => match env.lookup a, resD T env H r with
    | some (.ptr b off), some (ds, c) => match blkAt H b, T ty with
      | some blk, some ti => some ((partD ti blk.cs off).1 :: ds, (partD ti blk.cs off).2 ∧ c)
      | _, _ => none
    | _, _ => none
def retD : List D → D
  | [d] => d
  | ds => .tup ds
def retQ (T : Tbl) (rs : List ResultVar) (K : D → Heap → Prop) : Exit → Env → Heap → Prop
  | .normal, env, H => match resD T env H rs with
    | some (ds, c) => c ∧ K (retD ds) H
    | none => False
  | .ret, env, H => match resD T env H rs with
    | some (ds, c) => c ∧ K (retD ds) H
    | none => False
  | _, _, _ => False
def envOf : Nat → List D → Env
  | _, [] => []
  | k, d :: ds => (k, d) :: envOf (k + 1) ds
def resOne (tmps : Array Value) : ResultVar → Sem Value
  | .tmp t => pure (tmps.getD t undef)
  | .cell a t => do loadVar t (← asAddr (tmps.getD a undef))
theorem results_eq (fn : Func) (tmps : Array Value) : results fn tmps = (do
    let vs ← fn.results.mapM (resOne tmps)
    pure (if h : vs.size = 1 then vs[0] else .tuple vs)) := by
  unfold results
  congr 2
section
variable {P : Program} {T : Tbl}
theorem envOf_rd {E : Ctx} : ∀ (ds : List D) (us : List Value) (k : Nat) (pre : List Value) (post : List Value), pre.length = k → RdT E ds us → ∀ t d, (envOf k ds).lookup t = some d → Rd E d ((pre ++ us ++ post).toArray.getD t undef)
  | [], us, k, pre, post, hk, hr, t, d, h => by simp [envOf] at h
  | d :: ds, us, k, pre, post, hk, hr, t, d', h => by
    simp only [RdT] at hr
    obtain ⟨u, r, rfl, hd, hr⟩ := hr
    simp only [envOf, List.lookup_cons] at h
    split at h
    · rename_i ht
      have ht : t = k := by simpa using ht
      injection h with h; subst h; subst ht
      have : (pre ++ u :: r ++ post).toArray.getD t undef = u := by
        simp [Array.getD_eq_getD_getElem?, hk, List.getElem?_append]
      rw [this]; exact hd
    · have := envOf_rd ds r (k + 1) (pre ++ [u]) post (by simp [hk]) hr t d' h
      simpa using this
theorem resD_run (hT : TblOk P T) {ρ : Nat → Nat × Nat} {S : Nat → Prop} {w : World} {H : Heap} {env : Env} {a : Act} (hS : St ρ S w H) (he : ∀ t d, env.lookup t = some d → Rd (ctx ρ S w H) d (a.tmps.getD t undef)) :
    ∀ (rs : List ResultVar) (ds : List D) (c : Prop), resD T env H rs = some (ds, c) → c →
      ∃ us : List Value, (rs.mapM (resOne a.tmps)).run P w = .ok us w ∧ RdT (ctx ρ S w H) ds us
  | [], ds, c, h, hc => by simp only [resD] at h; obtain ⟨rfl, rfl⟩ := pair_inj h; exact ⟨[], by simp, by simp [RdT]⟩
  | .tmp t :: r, ds, c, h, hc => by
    simp only [resD] at h
    split at h
    · rename_i d ds' c' h1 h2
      obtain ⟨rfl, rfl⟩ := pair_inj h
      obtain ⟨us, h3, h4⟩ := resD_run hT hS he r ds' _ h2 hc
      refine ⟨a.tmps.getD t undef :: us, ?_, ?_⟩
      · simp only [List.mapM_cons, resOne, Sem.run_bind, Sem.run_pure, Result.andThen_ok, h3]
      · simp only [RdT]; exact ⟨_, _, rfl, he t d h1, h4⟩
    · cases h
  | .cell x ty :: r, ds, c, h, hc => by
    simp only [resD] at h
    split at h
    · rename_i b off ds' c' h1 h2
      split at h
      · rename_i blk ti hb hty
        obtain ⟨rfl, rfl⟩ := pair_inj h
        obtain ⟨us, h3, h4⟩ := resD_run hT hS he r ds' _ h2 hc.2
        have hx := he x _ h1
        simp only [Rd] at hx
        obtain ⟨v, h5, h6⟩ := load_blk (P := P) hS (blkAt_some hb) (hT.ok ty ti hty) hc.1
        refine ⟨v :: us, ?_, ?_⟩
        · simp only [List.mapM_cons, resOne, Sem.run_bind, Sem.run_pure, Result.andThen_ok, hx.2, asAddr, h5, h3]
        · simp only [RdT]; exact ⟨_, _, rfl, h6, h4⟩
      · cases h
    · cases h
def Fin (ds : List D) (H : Heap) (d1 : D) (H1 : Heap) (d : D) (H' : Heap) : Prop :=
  ∀ ρ0 S0 w0 ρ S w u, St ρ0 S0 w0 H → (ctx ρ0 S0 w0 H).le (ctx ρ S w H1) → St ρ S w H1 → Rd (ctx ρ S w H1) d1 u → ∃ ρ' S', St ρ' S' w H' ∧ (ctx ρ0 S0 w0 H).le (ctx ρ' S' w H') ∧ Rd (ctx ρ' S' w H') d u
theorem callable_of {f : FuncId} {fn : Func} {c : Code} (hf : P.funcs[f]? = some fn) (hb : fn.body = some c) (hname : (fn.name == "runtime.NumGoroutine") = false) : Callable P f := ⟨fn, hf, by simp [hb], hname⟩
theorem callJ_of_dw (hT : TblOk P T) {f : FuncId} {fn : Func} {c : Code} {ds : List D} {H H' : Heap} {d : D} (hf : P.funcs[f]? = some fn) (hb : fn.body = some c)
    (hname : (fn.name == "runtime.NumGoroutine") = false) (hlen : ds.length ≤ fn.ntmps)
    (h : DW P fn.ntmps c (retQ T fn.results.toList fun d1 H1 => Fin ds H d1 H1 d H') (envOf 0 ds) H) : CallJ P f ds H d H' := by
  refine ⟨callable_of hf hb hname, fun ρ S w vals hS hv => ?_⟩
  have hvl : vals.length = ds.length := by
    have : ∀ (ds : List D) (us : List Value), RdT (ctx ρ S w H) ds us → us.length = ds.length := by
      intro ds
      induction ds with
      | nil => intro us h; simp only [RdT] at h; simp [h]
      | cons d ds ih => intro us h; simp only [RdT] at h; obtain ⟨u, r, rfl, _, h⟩ := h; simp [ih r h]
    exact this ds vals hv
  refine calls_of_wp hf hb ?_
  have hinv : Inv fn.ntmps ρ S w H (envOf 0 ds) { tmps := vals.toArray ++ Array.replicate (fn.ntmps - vals.toArray.size) undef, defers := [] } := by
    refine ⟨hS, fun t d' ht => ?_, by simp; omega, rfl⟩
    have := envOf_rd ds vals 0 [] (List.replicate (fn.ntmps - vals.toArray.size) undef) rfl hv t d' ht
    have e : vals.toArray ++ Array.replicate (fn.ntmps - vals.toArray.size) undef = (vals ++ List.replicate (fn.ntmps - vals.toArray.size) undef).toArray := by
      apply Array.toList_inj.1; simp
    rw [e]
    simpa using this
  refine wp_mono (h ρ S w _ hinv) fun e a' w' ⟨env', H1, ρ', S', h1, h2, h3⟩ => ?_
  have fin : (match resD T env' H1 fn.results.toList with | some (ds', c) => c ∧ Fin ds H (retD ds') H1 d H' | none => False) →
      a'.defers = [] ∧ ∃ v, (results fn a'.tmps).run P w' = .ok v w' ∧ ∃ v' ρ' S', Ending.returned v = .returned v' ∧ St ρ' S' w' H' ∧ (ctx ρ S w H).le (ctx ρ' S' w' H') ∧ Rd (ctx ρ' S' w' H') d v' := by
    intro h1
    split at h1
    · rename_i rs c' hres
      obtain ⟨us, hu1, hu2⟩ := resD_run hT h2.st h2.env _ _ _ hres h1.1
      have hrun : (results fn a'.tmps).run P w' = .ok (if h : us.toArray.size = 1 then us.toArray[0] else .tuple us.toArray) w' := by
        rw [results_eq, Array.mapM_eq_mapM_toList]
        simp only [Sem.run_bind, Sem.run_map, hu1, Result.andThen_ok, Sem.run_pure]
      have hrd : Rd (ctx ρ' S' w' H1) (retD rs) (if h : us.toArray.size = 1 then us.toArray[0] else .tuple us.toArray) := by
        cases rs with
        | nil => simp only [RdT] at hu2; subst hu2; simp only [retD]; simp only [Rd]; exact ⟨#[], by simp, by simp [RdT]⟩
        | cons d0 rs =>
          simp only [RdT] at hu2
          obtain ⟨u0, r, rfl, hd0, hr⟩ := hu2
          cases rs with
          | nil => simp only [RdT] at hr; subst hr; simpa [retD] using hd0
          | cons d1 rs =>
            have hr' := hr
            simp only [RdT] at hr
            obtain ⟨u1, r', rfl, hd1, hr⟩ := hr
            simp only [retD, Rd]
            refine ⟨(u0 :: u1 :: r').toArray, by simp, ?_⟩
            simp only [List.toList_toArray, RdT]
            exact ⟨u0, _, rfl, hd0, u1, r', rfl, hd1, hr⟩
      obtain ⟨ρ'', S'', g1, g2, g3⟩ := h1.2 ρ S w ρ' S' w' _ hS h3 h2.st hrd
      exact ⟨h2.defers, _, hrun, _, ρ'', S'', rfl, g1, g2, g3⟩
    · exact h1.elim
  cases e with
  | normal => exact fin h1
  | ret => exact fin h1
  | exit id => exact h1.elim
  | goto l => exact h1.elim
  | panic ch => exact h1.elim
  | outgrown => exact h1.elim
theorem callJ_of_vcg (hT : TblOk P T) (hm : P.follows .mixedOrders = true) {f : FuncId} {fn : Func} {c : Code} {ds : List D} {H H' : Heap} {d : D} (hf : P.funcs[f]? = some fn) (hb : fn.body = some c)
    (hname : (fn.name == "runtime.NumGoroutine") = false) (hok : codeOk fn.ntmps c = true) (hlen : ds.length ≤ fn.ntmps)
    (h : vcg P T fn.ntmps c (retQ T fn.results.toList fun d1 H1 => Fin ds H d1 H1 d H') (envOf 0 ds) H) : CallJ P f ds H d H' :=
  callJ_of_dw hT hf hb hname hlen (vcg_sound hT hm c _ _ _ hok h)
theorem fin_drop {ds : List D} {d : D} {H1 : Heap} (hn : Nameless d) : Fin ds [] d H1 d [] := by
  intro ρ0 S0 w0 ρ S w u hS0 hle hS hr
  have nl : ∀ ρ k, ¬ Live ρ [] k := fun ρ k ⟨b, blk, hb, _⟩ => by simp at hb
  refine ⟨ρ0, S, St.nil _ (fun k hk => (hS.sub k hk).1) hS.glob, ?_, Rd.move hn hr⟩
  exact ⟨Nat.le_refl _, fun _ _ => rfl, hle.S, hle.keep, fun k hk => (hle.new k hk).imp id fun h => .inr (h.resolve_left (nl _ k)), fun k hk => ⟨(hle.fix k hk).1, nl _ k⟩, hle.heap, hle.size, hle.os, hle.tape, hle.output⟩
theorem fin_same {ds : List D} {d : D} {H H1 : Heap} : Fin ds H d H1 d H1 := fun ρ0 S0 w0 ρ S w u hS0 hle hS hr => ⟨ρ, S, hS, hle, hr⟩
def SealTo (H1 : Heap) (d1 d : D) : Prop := match sealD H1 d1 with
  | some (e, c) => c ∧ e = d
  | none => False
theorem fin_seal {ds : List D} {d1 d : D} {H1 : Heap} (h : SealTo H1 d1 d) : Fin ds [] d1 H1 d [] := by
  intro ρ0 S0 w0 ρ S w u hS0 hle hS hr
  unfold SealTo at h
  split at h
  · rename_i e c hs
    obtain ⟨hc, rfl⟩ := h
    have nl : ∀ ρ k, ¬ Live ρ [] k := fun ρ k ⟨b, blk, hb, _⟩ => by simp at hb
    have hk : ∀ k, (S k ∨ Live ρ H1 k) → k < w.heap.size := fun k hk => by
      rcases hk with h | h
      · exact (hS.sub k h).1
      · exact hS.lt h
    refine ⟨ρ0, fun k => S k ∨ Live ρ H1 k, St.nil _ hk (hS.glob.mono (fun _ h => .inl h) fun _ _ => rfl), ?_, ?_⟩
    · exact ⟨Nat.le_refl _, fun _ _ => rfl, fun k hk => .inl (hle.S k hk), hle.keep, fun k hk => by
        rcases hk with h | h
        · exact hle.new k h
        · rcases Nat.lt_or_ge k w0.heap.size with h2 | h2
          · exact absurd h (hle.fix k ⟨h2, nl _ k⟩).2
          · exact .inr (.inr h2), fun k hk => ⟨(hle.fix k hk).1, nl _ k⟩, hle.heap, hle.size, hle.os, hle.tape, hle.output⟩
    · have := sealD_rd (S' := fun k => S k ∨ Live ρ H1 k) (H' := []) hS (fun k h => .inl h) (fun b blk hb hz => .inr ⟨b, blk, hb, hz, rfl⟩) d1 e c u hs hc hr
      have hn : Nameless e := by
        have key : ∀ u, Rd (ctx ρ (fun k => S k ∨ Live ρ H1 k) w []) e u → Nameless e := by
          intro u hu
          have nm : ∀ (d : D) (u : Value), Rd (ctx ρ (fun k => S k ∨ Live ρ H1 k) w []) d u → Nameless d := by
            intro d
            exact d.rec (motive_1 := fun d => ∀ u, Rd (ctx ρ (fun k => S k ∨ Live ρ H1 k) w []) d u → Nameless d)
              (motive_2 := fun ds => (∀ us, RdL (ctx ρ (fun k => S k ∨ Live ρ H1 k) w []) ds us → NamelessL ds) ∧ (∀ us, RdT (ctx ρ (fun k => S k ∨ Live ρ H1 k) w []) ds us → NamelessL ds))
              (fun x u _ => by simp only [Nameless])
              (fun n xs _ u h => by simp only [Rd] at h; simp only [Nameless]; exact h.1)
              (fun xs j _ u h => by simp only [Rd] at h; simp only [Nameless]; exact h.1)
              (fun b off n c u h => by cases c <;> simp only [Rd] at h <;> exact absurd h.1 (by simp))
              (fun b off u h => by simp only [Rd] at h; exact absurd h.1 (by simp))
              (fun xs ih u h => by simp only [Rd] at h; obtain ⟨us, _, h⟩ := h; simp only [Nameless]; exact ih.1 _ h)
              (fun xs ih u h => by simp only [Rd] at h; obtain ⟨us, _, h⟩ := h; simp only [Nameless]; exact ih.2 _ h)
              (fun t d ih u h => by simp only [Rd] at h; obtain ⟨x, _, h⟩ := h; simp only [Nameless]; exact ih _ h)
              (fun f k caps ih u h => by simp only [Rd] at h; obtain ⟨fs, us, _, _, h⟩ := h; simp only [Nameless]; exact ih.2 _ h)
              ⟨fun us _ => by simp only [NamelessL], fun us _ => by simp only [NamelessL]⟩
              (fun d ds ih1 ih2 => ⟨fun us h => by simp only [RdL] at h; obtain ⟨u, r, _, _, h1, h2⟩ := h; simp only [NamelessL]; exact ⟨ih1 _ h1, ih2.1 _ h2⟩,
                fun us h => by simp only [RdT] at h; obtain ⟨u, r, _, h1, h2⟩ := h; simp only [NamelessL]; exact ⟨ih1 _ h1, ih2.2 _ h2⟩⟩)
          exact nm e u hu
        exact key u this
      exact this.move hn
  · exact h.elim
theorem pureJ_of_vcg (hT : TblOk P T) (hm : P.follows .mixedOrders = true) {f : FuncId} {fn : Func} {c : Code} {ds : List D} {d : D} (hf : P.funcs[f]? = some fn) (hb : fn.body = some c)
    (hname : (fn.name == "runtime.NumGoroutine") = false) (hok : codeOk fn.ntmps c = true) (hlen : ds.length ≤ fn.ntmps) (h1 : NamelessL ds) (h2 : Nameless d)
    (h : vcg P T fn.ntmps c (retQ T fn.results.toList fun d1 H1 => SealTo H1 d1 d) (envOf 0 ds) []) : PureJ P f ds d := by
  refine PureJ.of_nil h1 h2 (callJ_of_vcg hT hm hf hb hname hok hlen ?_)
  have : (retQ T fn.results.toList fun d1 H1 => SealTo H1 d1 d) = (retQ T fn.results.toList fun d1 H1 => SealTo H1 d1 d) := rfl
  have mono : ∀ e env H, retQ T fn.results.toList (fun d1 H1 => SealTo H1 d1 d) e env H → retQ T fn.results.toList (fun d1 H1 => Fin ds [] d1 H1 d []) e env H := by
    intro e env H h
    cases e <;> simp only [retQ] at h ⊢
    all_goals first
      | exact h.elim
      | (split at h
         · exact ⟨h.1, fin_seal h.2⟩
         · exact h.elim)
  exact vcg_mono P T fn.ntmps c _ _ mono _ _ h
end
end Go.VD
end
section
namespace Go.Proofs.Ythnhfkpihbjddaa
open Go.VD
set_option linter.unusedVariables false
def tblL : List (TypeId × TI) := [(1, ⟨.fn, 1, 8, [.nilFunc]⟩),
  (2, ⟨.int .i64, 1, 8, [.int .i64 0]⟩),
  (3, ⟨.int .i64, 1, 8, [.int .i64 0]⟩),
  (4, ⟨.bool, 1, 1, [.bool false]⟩),
  (5, ⟨.int .u8, 1, 1, [.int .u8 0]⟩),
  (6, ⟨.int .u8, 1, 1, [.int .u8 0]⟩),
  (7, ⟨.struct [(0, 2), (1, 3), (2, 4), (3, 6)], 4, 24, [.int .i64 0, .int .i64 0, .bool false, .int .u8 0]⟩),
  (8, ⟨.struct [(0, 2), (1, 3), (2, 4), (3, 6)], 4, 24, [.int .i64 0, .int .i64 0, .bool false, .int .u8 0]⟩),
  (9, ⟨.str, 1, 16, [.string .empty]⟩),
  (10, ⟨.str, 1, 16, [.string .empty]⟩),
  (11, ⟨.str, 1, 16, [.string .empty]⟩),
  (12, ⟨.int .u64, 1, 8, [.int .u64 0]⟩),
  (15, ⟨.ptr 157, 1, 8, [.pointer none]⟩),
  (16, ⟨.ptr 160, 1, 8, [.pointer none]⟩),
  (17, ⟨.ptr 168, 1, 8, [.pointer none]⟩),
  (20, ⟨.other, 1, 16, [.nilIface]⟩),
  (21, ⟨.int .i32, 1, 4, [.int .i32 0]⟩),
  (22, ⟨.slice 41, 1, 24, [.slice none 0 0]⟩),
  (23, ⟨.struct [(0, 4), (1, 22)], 2, 32, [.bool false, .slice none 0 0]⟩),
  (24, ⟨.struct [(0, 4), (1, 22)], 2, 32, [.bool false, .slice none 0 0]⟩),
  (25, ⟨.fn, 1, 8, [.nilFunc]⟩),
  (26, ⟨.fn, 1, 8, [.nilFunc]⟩),
  (27, ⟨.int .i64, 1, 8, [.int .i64 0]⟩),
  (29, ⟨.fn, 1, 8, [.nilFunc]⟩),
  (30, ⟨.fn, 1, 8, [.nilFunc]⟩),
  (31, ⟨.fn, 1, 8, [.nilFunc]⟩),
  (33, ⟨.fn, 1, 8, [.nilFunc]⟩),
  (34, ⟨.fn, 1, 8, [.nilFunc]⟩),
  (35, ⟨.fn, 1, 8, [.nilFunc]⟩),
  (36, ⟨.fn, 1, 8, [.nilFunc]⟩),
  (37, ⟨.fn, 1, 8, [.nilFunc]⟩),
  (38, ⟨.fn, 1, 8, [.nilFunc]⟩),
  (39, ⟨.fn, 1, 8, [.nilFunc]⟩),
  (40, ⟨.fn, 1, 8, [.nilFunc]⟩),
  (41, ⟨.int .u32, 1, 4, [.int .u32 0]⟩),
  (42, ⟨.fn, 1, 8, [.nilFunc]⟩),
  (43, ⟨.fn, 1, 8, [.nilFunc]⟩),
  (44, ⟨.slice 71, 1, 24, [.slice none 0 0]⟩),
  (45, ⟨.fn, 1, 8, [.nilFunc]⟩),
  (46, ⟨.fn, 1, 8, [.nilFunc]⟩),
  (47, ⟨.fn, 1, 8, [.nilFunc]⟩),
  (48, ⟨.fn, 1, 8, [.nilFunc]⟩),
  (49, ⟨.fn, 1, 8, [.nilFunc]⟩),
  (51, ⟨.fn, 1, 8, [.nilFunc]⟩),
  (52, ⟨.fn, 1, 8, [.nilFunc]⟩),
  (54, ⟨.fn, 1, 8, [.nilFunc]⟩),
  (55, ⟨.fn, 1, 8, [.nilFunc]⟩),
  (56, ⟨.fn, 1, 8, [.nilFunc]⟩),
  (57, ⟨.slice 24, 1, 24, [.slice none 0 0]⟩),
  (59, ⟨.fn, 1, 8, [.nilFunc]⟩),
  (60, ⟨.fn, 1, 8, [.nilFunc]⟩),
  (61, ⟨.fn, 1, 8, [.nilFunc]⟩),
  (62, ⟨.fn, 1, 8, [.nilFunc]⟩),
  (63, ⟨.fn, 1, 8, [.nilFunc]⟩),
  (64, ⟨.fn, 1, 8, [.nilFunc]⟩),
  (65, ⟨.fn, 1, 8, [.nilFunc]⟩),
  (66, ⟨.int .u64, 1, 8, [.int .u64 0]⟩),
  (67, ⟨.fn, 1, 8, [.nilFunc]⟩),
  (68, ⟨.fn, 1, 8, [.nilFunc]⟩),
  (69, ⟨.slice 86, 1, 24, [.slice none 0 0]⟩),
  (70, ⟨.struct [(0, 3), (1, 69), (2, 4), (3, 44)], 4, 64, [.int .i64 0, .slice none 0 0, .bool false, .slice none 0 0]⟩),
  (71, ⟨.struct [(0, 3), (1, 69), (2, 4), (3, 44)], 4, 64, [.int .i64 0, .slice none 0 0, .bool false, .slice none 0 0]⟩),
  (72, ⟨.fn, 1, 8, [.nilFunc]⟩),
  (73, ⟨.fn, 1, 8, [.nilFunc]⟩),
  (75, ⟨.fn, 1, 8, [.nilFunc]⟩),
  (76, ⟨.ptr 79, 1, 8, [.pointer none]⟩),
  (77, ⟨.slice 5, 1, 24, [.slice none 0 0]⟩),
  (78, ⟨.struct [(0, 76), (1, 77)], 2, 32, [.pointer none, .slice none 0 0]⟩),
  (79, ⟨.struct [(0, 76), (1, 77)], 2, 32, [.pointer none, .slice none 0 0]⟩),
  (80, ⟨.fn, 1, 8, [.nilFunc]⟩),
  (81, ⟨.fn, 1, 8, [.nilFunc]⟩),
  (82, ⟨.fn, 1, 8, [.nilFunc]⟩),
  (83, ⟨.fn, 1, 8, [.nilFunc]⟩),
  (84, ⟨.fn, 1, 8, [.nilFunc]⟩),
  (85, ⟨.struct [(0, 9), (1, 4)], 2, 24, [.string .empty, .bool false]⟩),
  (86, ⟨.struct [(0, 9), (1, 4)], 2, 24, [.string .empty, .bool false]⟩),
  (87, ⟨.fn, 1, 8, [.nilFunc]⟩),
  (89, ⟨.fn, 1, 8, [.nilFunc]⟩),
  (90, ⟨.fn, 1, 8, [.nilFunc]⟩),
  (91, ⟨.fn, 1, 8, [.nilFunc]⟩),
  (92, ⟨.fn, 1, 8, [.nilFunc]⟩),
  (93, ⟨.struct [(0, 9), (1, 3)], 2, 24, [.string .empty, .int .i64 0]⟩),
  (94, ⟨.struct [(0, 9), (1, 3)], 2, 24, [.string .empty, .int .i64 0]⟩),
  (95, ⟨.struct [(0, 94), (2, 3)], 3, 32, [.string .empty, .int .i64 0, .int .i64 0]⟩),
  (96, ⟨.struct [(0, 94), (2, 3)], 3, 32, [.string .empty, .int .i64 0, .int .i64 0]⟩),
  (97, ⟨.fn, 1, 8, [.nilFunc]⟩),
  (98, ⟨.fn, 1, 8, [.nilFunc]⟩),
  (99, ⟨.fn, 1, 8, [.nilFunc]⟩),
  (100, ⟨.fn, 1, 8, [.nilFunc]⟩),
  (101, ⟨.fn, 1, 8, [.nilFunc]⟩),
  (103, ⟨.fn, 1, 8, [.nilFunc]⟩),
  (104, ⟨.fn, 1, 8, [.nilFunc]⟩),
  (106, ⟨.fn, 1, 8, [.nilFunc]⟩),
  (107, ⟨.int .u64, 1, 8, [.int .u64 0]⟩),
  (108, ⟨.fn, 1, 8, [.nilFunc]⟩),
  (109, ⟨.fn, 1, 8, [.nilFunc]⟩),
  (110, ⟨.fn, 1, 8, [.nilFunc]⟩),
  (111, ⟨.struct [(0, 2), (1, 2), (2, 2), (3, 2)], 4, 32, [.int .i64 0, .int .i64 0, .int .i64 0, .int .i64 0]⟩),
  (112, ⟨.struct [(0, 2), (1, 2), (2, 2), (3, 2)], 4, 32, [.int .i64 0, .int .i64 0, .int .i64 0, .int .i64 0]⟩),
  (113, ⟨.fn, 1, 8, [.nilFunc]⟩),
  (114, ⟨.fn, 1, 8, [.nilFunc]⟩),
  (115, ⟨.fn, 1, 8, [.nilFunc]⟩),
  (116, ⟨.fn, 1, 8, [.nilFunc]⟩),
  (117, ⟨.fn, 1, 8, [.nilFunc]⟩),
  (118, ⟨.fn, 1, 8, [.nilFunc]⟩),
  (119, ⟨.fn, 1, 8, [.nilFunc]⟩),
  (120, ⟨.fn, 1, 8, [.nilFunc]⟩),
  (121, ⟨.fn, 1, 8, [.nilFunc]⟩),
  (122, ⟨.other, 1, 16, [.nilIface]⟩),
  (123, ⟨.other, 1, 16, [.nilIface]⟩),
  (125, ⟨.fn, 1, 8, [.nilFunc]⟩),
  (126, ⟨.fn, 1, 8, [.nilFunc]⟩),
  (127, ⟨.fn, 1, 8, [.nilFunc]⟩),
  (128, ⟨.ptr 5, 1, 8, [.pointer none]⟩),
  (129, ⟨.fn, 1, 8, [.nilFunc]⟩),
  (130, ⟨.ptr 96, 1, 8, [.pointer none]⟩),
  (131, ⟨.int .u8, 1, 1, [.int .u8 0]⟩),
  (132, ⟨.struct [(0, 131), (1, 86), (3, 3)], 4, 40, [.int .u8 0, .string .empty, .bool false, .int .i64 0]⟩),
  (133, ⟨.struct [(0, 131), (1, 86), (3, 3)], 4, 40, [.int .u8 0, .string .empty, .bool false, .int .i64 0]⟩),
  (135, ⟨.fn, 1, 8, [.nilFunc]⟩),
  (137, ⟨.fn, 1, 8, [.nilFunc]⟩),
  (138, ⟨.fn, 1, 8, [.nilFunc]⟩),
  (139, ⟨.fn, 1, 8, [.nilFunc]⟩),
  (140, ⟨.fn, 1, 8, [.nilFunc]⟩),
  (141, ⟨.ptr 94, 1, 8, [.pointer none]⟩),
  (142, ⟨.fn, 1, 8, [.nilFunc]⟩),
  (143, ⟨.fn, 1, 8, [.nilFunc]⟩),
  (144, ⟨.fn, 1, 8, [.nilFunc]⟩),
  (146, ⟨.fn, 1, 8, [.nilFunc]⟩),
  (148, ⟨.fn, 1, 8, [.nilFunc]⟩),
  (149, ⟨.fn, 1, 8, [.nilFunc]⟩),
  (150, ⟨.fn, 1, 8, [.nilFunc]⟩),
  (151, ⟨.fn, 1, 8, [.nilFunc]⟩),
  (152, ⟨.fn, 1, 8, [.nilFunc]⟩),
  (153, ⟨.fn, 1, 8, [.nilFunc]⟩),
  (154, ⟨.fn, 1, 8, [.nilFunc]⟩),
  (155, ⟨.ptr 170, 1, 8, [.pointer none]⟩),
  (158, ⟨.arr 0 16, 0, 0, []⟩),
  (161, ⟨.fn, 1, 8, [.nilFunc]⟩),
  (162, ⟨.int .u8, 1, 1, [.int .u8 0]⟩),
  (163, ⟨.int .u8, 1, 1, [.int .u8 0]⟩),
  (164, ⟨.fn, 1, 8, [.nilFunc]⟩),
  (165, ⟨.int .i32, 1, 4, [.int .i32 0]⟩),
  (166, ⟨.int .i32, 1, 4, [.int .i32 0]⟩),
  (169, ⟨.struct [(0, 9)], 1, 16, [.string .empty]⟩),
  (170, ⟨.struct [(0, 9)], 1, 16, [.string .empty]⟩)]
def T : Tbl := tblOf tblL
theorem T_ok : TblOk Try.prog T := tblOk_of (by kernel_rfl)
theorem mixed : Try.prog.follows .mixedOrders = true := by kernel_rfl
theorem T_1 : T 1 = some ⟨.fn, 1, 8, [.nilFunc]⟩ := by kernel_rfl
theorem T_2 : T 2 = some ⟨.int .i64, 1, 8, [.int .i64 0]⟩ := by kernel_rfl
theorem T_3 : T 3 = some ⟨.int .i64, 1, 8, [.int .i64 0]⟩ := by kernel_rfl
theorem T_4 : T 4 = some ⟨.bool, 1, 1, [.bool false]⟩ := by kernel_rfl
theorem T_5 : T 5 = some ⟨.int .u8, 1, 1, [.int .u8 0]⟩ := by kernel_rfl
theorem T_6 : T 6 = some ⟨.int .u8, 1, 1, [.int .u8 0]⟩ := by kernel_rfl
theorem T_7 : T 7 = some ⟨.struct [(0, 2), (1, 3), (2, 4), (3, 6)], 4, 24, [.int .i64 0, .int .i64 0, .bool false, .int .u8 0]⟩ := by kernel_rfl
theorem T_8 : T 8 = some ⟨.struct [(0, 2), (1, 3), (2, 4), (3, 6)], 4, 24, [.int .i64 0, .int .i64 0, .bool false, .int .u8 0]⟩ := by kernel_rfl
theorem T_9 : T 9 = some ⟨.str, 1, 16, [.string .empty]⟩ := by kernel_rfl
theorem T_10 : T 10 = some ⟨.str, 1, 16, [.string .empty]⟩ := by kernel_rfl
theorem T_11 : T 11 = some ⟨.str, 1, 16, [.string .empty]⟩ := by kernel_rfl
theorem T_12 : T 12 = some ⟨.int .u64, 1, 8, [.int .u64 0]⟩ := by kernel_rfl
theorem T_15 : T 15 = some ⟨.ptr 157, 1, 8, [.pointer none]⟩ := by kernel_rfl
theorem T_16 : T 16 = some ⟨.ptr 160, 1, 8, [.pointer none]⟩ := by kernel_rfl
theorem T_17 : T 17 = some ⟨.ptr 168, 1, 8, [.pointer none]⟩ := by kernel_rfl
theorem T_20 : T 20 = some ⟨.other, 1, 16, [.nilIface]⟩ := by kernel_rfl
theorem T_21 : T 21 = some ⟨.int .i32, 1, 4, [.int .i32 0]⟩ := by kernel_rfl
theorem T_22 : T 22 = some ⟨.slice 41, 1, 24, [.slice none 0 0]⟩ := by kernel_rfl
theorem T_23 : T 23 = some ⟨.struct [(0, 4), (1, 22)], 2, 32, [.bool false, .slice none 0 0]⟩ := by kernel_rfl
theorem T_24 : T 24 = some ⟨.struct [(0, 4), (1, 22)], 2, 32, [.bool false, .slice none 0 0]⟩ := by kernel_rfl
theorem T_25 : T 25 = some ⟨.fn, 1, 8, [.nilFunc]⟩ := by kernel_rfl
theorem T_26 : T 26 = some ⟨.fn, 1, 8, [.nilFunc]⟩ := by kernel_rfl
theorem T_27 : T 27 = some ⟨.int .i64, 1, 8, [.int .i64 0]⟩ := by kernel_rfl
theorem T_29 : T 29 = some ⟨.fn, 1, 8, [.nilFunc]⟩ := by kernel_rfl
theorem T_30 : T 30 = some ⟨.fn, 1, 8, [.nilFunc]⟩ := by kernel_rfl
theorem T_31 : T 31 = some ⟨.fn, 1, 8, [.nilFunc]⟩ := by kernel_rfl
theorem T_33 : T 33 = some ⟨.fn, 1, 8, [.nilFunc]⟩ := by kernel_rfl
theorem T_34 : T 34 = some ⟨.fn, 1, 8, [.nilFunc]⟩ := by kernel_rfl
theorem T_35 : T 35 = some ⟨.fn, 1, 8, [.nilFunc]⟩ := by kernel_rfl
theorem T_36 : T 36 = some ⟨.fn, 1, 8, [.nilFunc]⟩ := by kernel_rfl
theorem T_37 : T 37 = some ⟨.fn, 1, 8, [.nilFunc]⟩ := by kernel_rfl
theorem T_38 : T 38 = some ⟨.fn, 1, 8, [.nilFunc]⟩ := by kernel_rfl
theorem T_39 : T 39 = some ⟨.fn, 1, 8, [.nilFunc]⟩ := by kernel_rfl
theorem T_40 : T 40 = some ⟨.fn, 1, 8, [.nilFunc]⟩ := by kernel_rfl
theorem T_41 : T 41 = some ⟨.int .u32, 1, 4, [.int .u32 0]⟩ := by kernel_rfl
theorem T_42 : T 42 = some ⟨.fn, 1, 8, [.nilFunc]⟩ := by kernel_rfl
theorem T_43 : T 43 = some ⟨.fn, 1, 8, [.nilFunc]⟩ := by kernel_rfl
theorem T_44 : T 44 = some ⟨.slice 71, 1, 24, [.slice none 0 0]⟩ := by kernel_rfl
theorem T_45 : T 45 = some ⟨.fn, 1, 8, [.nilFunc]⟩ := by kernel_rfl
theorem T_46 : T 46 = some ⟨.fn, 1, 8, [.nilFunc]⟩ := by kernel_rfl
theorem T_47 : T 47 = some ⟨.fn, 1, 8, [.nilFunc]⟩ := by kernel_rfl
theorem T_48 : T 48 = some ⟨.fn, 1, 8, [.nilFunc]⟩ := by kernel_rfl
theorem T_49 : T 49 = some ⟨.fn, 1, 8, [.nilFunc]⟩ := by kernel_rfl
theorem T_51 : T 51 = some ⟨.fn, 1, 8, [.nilFunc]⟩ := by kernel_rfl
theorem T_52 : T 52 = some ⟨.fn, 1, 8, [.nilFunc]⟩ := by kernel_rfl
theorem T_54 : T 54 = some ⟨.fn, 1, 8, [.nilFunc]⟩ := by kernel_rfl
theorem T_55 : T 55 = some ⟨.fn, 1, 8, [.nilFunc]⟩ := by kernel_rfl
theorem T_56 : T 56 = some ⟨.fn, 1, 8, [.nilFunc]⟩ := by kernel_rfl
theorem T_57 : T 57 = some ⟨.slice 24, 1, 24, [.slice none 0 0]⟩ := by kernel_rfl
theorem T_59 : T 59 = some ⟨.fn, 1, 8, [.nilFunc]⟩ := by kernel_rfl
theorem T_60 : T 60 = some ⟨.fn, 1, 8, [.nilFunc]⟩ := by kernel_rfl
theorem T_61 : T 61 = some ⟨.fn, 1, 8, [.nilFunc]⟩ := by kernel_rfl
theorem T_62 : T 62 = some ⟨.fn, 1, 8, [.nilFunc]⟩ := by kernel_rfl
theorem T_63 : T 63 = some ⟨.fn, 1, 8, [.nilFunc]⟩ := by kernel_rfl
theorem T_64 : T 64 = some ⟨.fn, 1, 8, [.nilFunc]⟩ := by kernel_rfl
theorem T_65 : T 65 = some ⟨.fn, 1, 8, [.nilFunc]⟩ := by kernel_rfl
theorem T_66 : T 66 = some ⟨.int .u64, 1, 8, [.int .u64 0]⟩ := by kernel_rfl
theorem T_67 : T 67 = some ⟨.fn, 1, 8, [.nilFunc]⟩ := by kernel_rfl
theorem T_68 : T 68 = some ⟨.fn, 1, 8, [.nilFunc]⟩ := by kernel_rfl
theorem T_69 : T 69 = some ⟨.slice 86, 1, 24, [.slice none 0 0]⟩ := by kernel_rfl
theorem T_70 : T 70 = some ⟨.struct [(0, 3), (1, 69), (2, 4), (3, 44)], 4, 64, [.int .i64 0, .slice none 0 0, .bool false, .slice none 0 0]⟩ := by kernel_rfl
theorem T_71 : T 71 = some ⟨.struct [(0, 3), (1, 69), (2, 4), (3, 44)], 4, 64, [.int .i64 0, .slice none 0 0, .bool false, .slice none 0 0]⟩ := by kernel_rfl
theorem T_72 : T 72 = some ⟨.fn, 1, 8, [.nilFunc]⟩ := by kernel_rfl
theorem T_73 : T 73 = some ⟨.fn, 1, 8, [.nilFunc]⟩ := by kernel_rfl
theorem T_75 : T 75 = some ⟨.fn, 1, 8, [.nilFunc]⟩ := by kernel_rfl
theorem T_76 : T 76 = some ⟨.ptr 79, 1, 8, [.pointer none]⟩ := by kernel_rfl
theorem T_77 : T 77 = some ⟨.slice 5, 1, 24, [.slice none 0 0]⟩ := by kernel_rfl
theorem T_78 : T 78 = some ⟨.struct [(0, 76), (1, 77)], 2, 32, [.pointer none, .slice none 0 0]⟩ := by kernel_rfl
theorem T_79 : T 79 = some ⟨.struct [(0, 76), (1, 77)], 2, 32, [.pointer none, .slice none 0 0]⟩ := by kernel_rfl
theorem T_80 : T 80 = some ⟨.fn, 1, 8, [.nilFunc]⟩ := by kernel_rfl
theorem T_81 : T 81 = some ⟨.fn, 1, 8, [.nilFunc]⟩ := by kernel_rfl
theorem T_82 : T 82 = some ⟨.fn, 1, 8, [.nilFunc]⟩ := by kernel_rfl
theorem T_83 : T 83 = some ⟨.fn, 1, 8, [.nilFunc]⟩ := by kernel_rfl
theorem T_84 : T 84 = some ⟨.fn, 1, 8, [.nilFunc]⟩ := by kernel_rfl
theorem T_85 : T 85 = some ⟨.struct [(0, 9), (1, 4)], 2, 24, [.string .empty, .bool false]⟩ := by kernel_rfl
theorem T_86 : T 86 = some ⟨.struct [(0, 9), (1, 4)], 2, 24, [.string .empty, .bool false]⟩ := by kernel_rfl
theorem T_87 : T 87 = some ⟨.fn, 1, 8, [.nilFunc]⟩ := by kernel_rfl
theorem T_89 : T 89 = some ⟨.fn, 1, 8, [.nilFunc]⟩ := by kernel_rfl
theorem T_90 : T 90 = some ⟨.fn, 1, 8, [.nilFunc]⟩ := by kernel_rfl
theorem T_91 : T 91 = some ⟨.fn, 1, 8, [.nilFunc]⟩ := by kernel_rfl
theorem T_92 : T 92 = some ⟨.fn, 1, 8, [.nilFunc]⟩ := by kernel_rfl
theorem T_93 : T 93 = some ⟨.struct [(0, 9), (1, 3)], 2, 24, [.string .empty, .int .i64 0]⟩ := by kernel_rfl
theorem T_94 : T 94 = some ⟨.struct [(0, 9), (1, 3)], 2, 24, [.string .empty, .int .i64 0]⟩ := by kernel_rfl
theorem T_95 : T 95 = some ⟨.struct [(0, 94), (2, 3)], 3, 32, [.string .empty, .int .i64 0, .int .i64 0]⟩ := by kernel_rfl
theorem T_96 : T 96 = some ⟨.struct [(0, 94), (2, 3)], 3, 32, [.string .empty, .int .i64 0, .int .i64 0]⟩ := by kernel_rfl
theorem T_97 : T 97 = some ⟨.fn, 1, 8, [.nilFunc]⟩ := by kernel_rfl
theorem T_98 : T 98 = some ⟨.fn, 1, 8, [.nilFunc]⟩ := by kernel_rfl
theorem T_99 : T 99 = some ⟨.fn, 1, 8, [.nilFunc]⟩ := by kernel_rfl
theorem T_100 : T 100 = some ⟨.fn, 1, 8, [.nilFunc]⟩ := by kernel_rfl
theorem T_101 : T 101 = some ⟨.fn, 1, 8, [.nilFunc]⟩ := by kernel_rfl
theorem T_103 : T 103 = some ⟨.fn, 1, 8, [.nilFunc]⟩ := by kernel_rfl
theorem T_104 : T 104 = some ⟨.fn, 1, 8, [.nilFunc]⟩ := by kernel_rfl
theorem T_106 : T 106 = some ⟨.fn, 1, 8, [.nilFunc]⟩ := by kernel_rfl
theorem T_107 : T 107 = some ⟨.int .u64, 1, 8, [.int .u64 0]⟩ := by kernel_rfl
theorem T_108 : T 108 = some ⟨.fn, 1, 8, [.nilFunc]⟩ := by kernel_rfl
theorem T_109 : T 109 = some ⟨.fn, 1, 8, [.nilFunc]⟩ := by kernel_rfl
theorem T_110 : T 110 = some ⟨.fn, 1, 8, [.nilFunc]⟩ := by kernel_rfl
theorem T_111 : T 111 = some ⟨.struct [(0, 2), (1, 2), (2, 2), (3, 2)], 4, 32, [.int .i64 0, .int .i64 0, .int .i64 0, .int .i64 0]⟩ := by kernel_rfl
theorem T_112 : T 112 = some ⟨.struct [(0, 2), (1, 2), (2, 2), (3, 2)], 4, 32, [.int .i64 0, .int .i64 0, .int .i64 0, .int .i64 0]⟩ := by kernel_rfl
theorem T_113 : T 113 = some ⟨.fn, 1, 8, [.nilFunc]⟩ := by kernel_rfl
theorem T_114 : T 114 = some ⟨.fn, 1, 8, [.nilFunc]⟩ := by kernel_rfl
theorem T_115 : T 115 = some ⟨.fn, 1, 8, [.nilFunc]⟩ := by kernel_rfl
theorem T_116 : T 116 = some ⟨.fn, 1, 8, [.nilFunc]⟩ := by kernel_rfl
theorem T_117 : T 117 = some ⟨.fn, 1, 8, [.nilFunc]⟩ := by kernel_rfl
theorem T_118 : T 118 = some ⟨.fn, 1, 8, [.nilFunc]⟩ := by kernel_rfl
theorem T_119 : T 119 = some ⟨.fn, 1, 8, [.nilFunc]⟩ := by kernel_rfl
theorem T_120 : T 120 = some ⟨.fn, 1, 8, [.nilFunc]⟩ := by kernel_rfl
theorem T_121 : T 121 = some ⟨.fn, 1, 8, [.nilFunc]⟩ := by kernel_rfl
theorem T_122 : T 122 = some ⟨.other, 1, 16, [.nilIface]⟩ := by kernel_rfl
theorem T_123 : T 123 = some ⟨.other, 1, 16, [.nilIface]⟩ := by kernel_rfl
theorem T_125 : T 125 = some ⟨.fn, 1, 8, [.nilFunc]⟩ := by kernel_rfl
theorem T_126 : T 126 = some ⟨.fn, 1, 8, [.nilFunc]⟩ := by kernel_rfl
theorem T_127 : T 127 = some ⟨.fn, 1, 8, [.nilFunc]⟩ := by kernel_rfl
theorem T_128 : T 128 = some ⟨.ptr 5, 1, 8, [.pointer none]⟩ := by kernel_rfl
theorem T_129 : T 129 = some ⟨.fn, 1, 8, [.nilFunc]⟩ := by kernel_rfl
theorem T_130 : T 130 = some ⟨.ptr 96, 1, 8, [.pointer none]⟩ := by kernel_rfl
theorem T_131 : T 131 = some ⟨.int .u8, 1, 1, [.int .u8 0]⟩ := by kernel_rfl
theorem T_132 : T 132 = some ⟨.struct [(0, 131), (1, 86), (3, 3)], 4, 40, [.int .u8 0, .string .empty, .bool false, .int .i64 0]⟩ := by kernel_rfl
theorem T_133 : T 133 = some ⟨.struct [(0, 131), (1, 86), (3, 3)], 4, 40, [.int .u8 0, .string .empty, .bool false, .int .i64 0]⟩ := by kernel_rfl
theorem T_135 : T 135 = some ⟨.fn, 1, 8, [.nilFunc]⟩ := by kernel_rfl
theorem T_137 : T 137 = some ⟨.fn, 1, 8, [.nilFunc]⟩ := by kernel_rfl
theorem T_138 : T 138 = some ⟨.fn, 1, 8, [.nilFunc]⟩ := by kernel_rfl
theorem T_139 : T 139 = some ⟨.fn, 1, 8, [.nilFunc]⟩ := by kernel_rfl
theorem T_140 : T 140 = some ⟨.fn, 1, 8, [.nilFunc]⟩ := by kernel_rfl
theorem T_141 : T 141 = some ⟨.ptr 94, 1, 8, [.pointer none]⟩ := by kernel_rfl
theorem T_142 : T 142 = some ⟨.fn, 1, 8, [.nilFunc]⟩ := by kernel_rfl
theorem T_143 : T 143 = some ⟨.fn, 1, 8, [.nilFunc]⟩ := by kernel_rfl
theorem T_144 : T 144 = some ⟨.fn, 1, 8, [.nilFunc]⟩ := by kernel_rfl
theorem T_146 : T 146 = some ⟨.fn, 1, 8, [.nilFunc]⟩ := by kernel_rfl
theorem T_148 : T 148 = some ⟨.fn, 1, 8, [.nilFunc]⟩ := by kernel_rfl
theorem T_149 : T 149 = some ⟨.fn, 1, 8, [.nilFunc]⟩ := by kernel_rfl
theorem T_150 : T 150 = some ⟨.fn, 1, 8, [.nilFunc]⟩ := by kernel_rfl
theorem T_151 : T 151 = some ⟨.fn, 1, 8, [.nilFunc]⟩ := by kernel_rfl
theorem T_152 : T 152 = some ⟨.fn, 1, 8, [.nilFunc]⟩ := by kernel_rfl
theorem T_153 : T 153 = some ⟨.fn, 1, 8, [.nilFunc]⟩ := by kernel_rfl
theorem T_154 : T 154 = some ⟨.fn, 1, 8, [.nilFunc]⟩ := by kernel_rfl
theorem T_155 : T 155 = some ⟨.ptr 170, 1, 8, [.pointer none]⟩ := by kernel_rfl
theorem T_158 : T 158 = some ⟨.arr 0 16, 0, 0, []⟩ := by kernel_rfl
theorem T_161 : T 161 = some ⟨.fn, 1, 8, [.nilFunc]⟩ := by kernel_rfl
theorem T_162 : T 162 = some ⟨.int .u8, 1, 1, [.int .u8 0]⟩ := by kernel_rfl
theorem T_163 : T 163 = some ⟨.int .u8, 1, 1, [.int .u8 0]⟩ := by kernel_rfl
theorem T_164 : T 164 = some ⟨.fn, 1, 8, [.nilFunc]⟩ := by kernel_rfl
theorem T_165 : T 165 = some ⟨.int .i32, 1, 4, [.int .i32 0]⟩ := by kernel_rfl
theorem T_166 : T 166 = some ⟨.int .i32, 1, 4, [.int .i32 0]⟩ := by kernel_rfl
theorem T_169 : T 169 = some ⟨.struct [(0, 9)], 1, 16, [.string .empty]⟩ := by kernel_rfl
theorem T_170 : T 170 = some ⟨.struct [(0, 9)], 1, 16, [.string .empty]⟩ := by kernel_rfl
end Go.Proofs.Ythnhfkpihbjddaa
end
section
namespace Go.VD
set_option linter.unusedVariables false
set_option linter.unusedSimpArgs false
inductive TC (T : Tbl) : TypeId → List D → Prop
  | bool {t : TypeId} {a b : Nat} {z : List Value} (h : T t = some ⟨.bool, a, b, z⟩) (x : Bool) : TC T t [.v (.bool x)]
  | int {t : TypeId} {k : IntKind} {a b : Nat} {z : List Value} (h : T t = some ⟨.int k, a, b, z⟩) (n : Int) (hn : (Lit.int k n).wf = true) : TC T t [.v (.int k n)]
  | str {t : TypeId} {a b : Nat} {z : List Value} (h : T t = some ⟨.str, a, b, z⟩) (s : ByteArray) (hs : s.size ≤ maxLen) : TC T t [.v (.string s)]
  | slice {t e : TypeId} {a b : Nat} {z : List Value} (h : T t = some ⟨.slice e, a, b, z⟩) (chunks : List (List D)) (hl : chunks.length ≤ maxLen) (hc : ∀ c ∈ chunks, TC T e c) : TC T t [.ro chunks.length chunks.flatten]
  | struct {t : TypeId} {fs : List (Nat × TypeId)} {a b : Nat} {z : List Value} (h : T t = some ⟨.struct fs, a, b, z⟩) (parts : List (List D)) (hl : parts.length = fs.length)
      (hp : ∀ (i : Nat) (p : List D) (f : Nat × TypeId), parts[i]? = some p → fs[i]? = some f → TC T f.2 p) : TC T t parts.flatten
  | arr {t e : TypeId} {n a b : Nat} {z : List Value} (h : T t = some ⟨.arr n e, a, b, z⟩) (chunks : List (List D)) (hl : chunks.length = n) (hc : ∀ c ∈ chunks, TC T e c) : TC T t chunks.flatten
def contig (T : Tbl) : List (Nat × TypeId) → Nat → Nat → Bool
  | [], off, size => off == size
  | (o, t) :: r, off, size => match T t with
    | some ti => o == off && contig T r (off + ti.size) size
    | none => false
def canRead (T : Tbl) : Nat → TypeId → Bool
  | 0, _ => false
  | n + 1, t => match T t with
    | some ⟨.bool, s, _, _⟩ => s == 1
    | some ⟨.int _, s, _, _⟩ => s == 1
    | some ⟨.str, s, _, _⟩ => s == 1
    | some ⟨.slice e, s, _, _⟩ => (s == 1 && (match T e with | some te => te.size != 0 | none => false)) && canRead T n e
    | some ⟨.struct fs, s, _, _⟩ => contig T fs 0 s && fs.all fun f => canRead T n f.2
    | some ⟨.arr m e, s, _, _⟩ => canRead T n e && (match T e with | some ti => s == m * ti.size | none => false)
    | _ => false
section
variable {H : Type} {enc : TypeId × Value → H} {P : Program} {T : Tbl}
theorem TiOk.cellsOf {t : TypeId} {ti : TI} (h : TiOk P t ti) : P.cellsOf t = ti.size := by
  obtain ⟨i, z, d, hi, _, h1, _⟩ := h.ex
  simp [Program.cellsOf, hi, h1]
theorem exists_list {α : Type} (p : Nat → α → Prop) : ∀ (n : Nat), (∀ i, i < n → ∃ x, p i x) → ∃ l : List α, l.length = n ∧ ∀ i x, l[i]? = some x → p i x
  | 0, _ => ⟨[], rfl, by simp⟩
  | n + 1, h => by
    obtain ⟨l, hl, hp⟩ := exists_list p n fun i hi => h i (by omega)
    obtain ⟨x, hx⟩ := h n (by omega)
    refine ⟨l ++ [x], by simp [hl], fun i y hy => ?_⟩
    rcases getElem?_snoc_cases hy with ⟨_, hy⟩ | ⟨rfl, rfl⟩
    · exact hp i y hy
    · rw [hl]; exact hx
theorem RdL.flatten {E : Ctx} : ∀ (ds : List (List D)) (us : List (List Value)), ds.length = us.length → (∀ (i : Nat) (d : List D) (u : List Value), ds[i]? = some d → us[i]? = some u → RdL E d u) → RdL E ds.flatten us.flatten
  | [], us, hl, _ => by
    have : us = [] := List.eq_nil_of_length_eq_zero hl.symm
    subst this; simp [RdL]
  | d :: ds, [], hl, _ => by simp at hl
  | d :: ds, u :: us, hl, h => by
    simp only [List.flatten_cons]
    exact (h 0 d u (by simp) (by simp)).append _ _ _ _ (RdL.flatten ds us (by simpa using hl) fun i d' u' hd hu => h (i + 1) d' u' (by simpa using hd) (by simpa using hu))
theorem NamelessL.flatten {ds : List (List D)} (h : ∀ d ∈ ds, NamelessL d) : NamelessL ds.flatten := NamelessL.iff.2 fun x hx => by
  obtain ⟨d, hd, hx⟩ := List.mem_flatten.1 hx
  exact NamelessL.iff.1 (h d hd) x hx
theorem RdAt.flatten {E : Ctx} {sz : Nat} : ∀ (ds : List (List D)) (ad : Addr) (k : Nat), (∀ d ∈ ds, d.length = sz) → (∀ (i : Nat) (d : List D), ds[i]? = some d → ∀ (j : Nat) (x : D), d[j]? = some x → ∃ u, E.w.cell? (ad.add ((k + i) * sz + j)) = some u ∧ u.oneCell' = true ∧ Rd E x u) →
    ∀ (j : Nat) (x : D), ds.flatten[j]? = some x → ∃ u, E.w.cell? (ad.add (k * sz + j)) = some u ∧ u.oneCell' = true ∧ Rd E x u
  | [], ad, k, _, _, j, x, hx => by simp at hx
  | d :: ds, ad, k, hl, h, j, x, hx => by
    have hd := hl d (by simp)
    rw [List.flatten_cons] at hx
    by_cases hj : j < d.length
    · rw [List.getElem?_append_left hj] at hx
      have := h 0 d (by simp) j x hx
      simpa using this
    · rw [List.getElem?_append_right (by omega)] at hx
      have := RdAt.flatten ds ad (k + 1) (fun d' hd' => hl d' (by simp [hd'])) (fun i d' hd' j x hx => by
        have := h (i + 1) d' (by simpa using hd') j x hx
        rwa [show k + (i + 1) = k + 1 + i by omega] at this) (j - d.length) x hx
      rw [Nat.add_mul, Nat.one_mul, show k * sz + sz + (j - d.length) = k * sz + j by omega] at this
      exact this
theorem trod_read (hT : TblOk P T) {ρ : Nat → Nat × Nat} {w : World} {base : Nat} {spare : Nat → Bool} {held : Bool} : ∀ (n : Nat) (fuel : Nat) (t : TypeId) (cs : List Value) (x : DataW H × List MemPlace), canRead T n t = true →
    DataW.trod enc P w base spare held fuel t cs = some x → ∃ ds, RdL (ctx ρ (fun k => k < w.heap.size) w []) ds cs ∧ TC T t ds ∧ NamelessL ds
  | 0, fuel, t, cs, x, h, _ => by simp [canRead] at h
  | n + 1, fuel, t, cs, x, hcan, h => by
    simp only [canRead] at hcan
    have scalar : ∀ (v : Value) (d : TypeDesc), P.underlying t = some d → cs = [v] → v.oneCell' = true → RdL (ctx ρ (fun k => k < w.heap.size) w []) [.v v] cs := by
      intro v d _ hcs ho
      subst hcs
      simp only [RdL]
      exact ⟨v, [], rfl, ho, by simp [Rd], rfl⟩
    split at hcan
    · rename_i sz b z ht
      have hu := (hT.ok t _ ht).bool rfl
      have : ∃ y, cs = [.bool y] := by
        cases fuel with
        | zero => simp [DataW.trod] at h
        | succ m => unfold DataW.trod at h; rw [hu] at h; split at h <;> simp_all
      obtain ⟨y, hcs⟩ := this
      exact ⟨[.v (.bool y)], scalar _ _ hu hcs rfl, .bool ht y, by simp [NamelessL, Nameless]⟩
    · rename_i k sz b z ht
      have hu := (hT.ok t _ ht).int rfl
      have : ∃ y, cs = [.int k y] ∧ (Lit.int k y).wf = true := by
        cases fuel with
        | zero => simp [DataW.trod] at h
        | succ m => unfold DataW.trod at h; rw [hu] at h; split at h <;> simp_all
      obtain ⟨y, hcs, hwf⟩ := this
      exact ⟨[.v (.int k y)], scalar _ _ hu hcs rfl, .int ht y hwf, by simp [NamelessL, Nameless]⟩
    · rename_i sz b z ht
      have hu := (hT.ok t _ ht).str rfl
      have : ∃ y, cs = [.string y] ∧ y.size ≤ maxLen := by
        cases fuel with
        | zero => simp [DataW.trod] at h
        | succ m => unfold DataW.trod at h; rw [hu] at h; split at h <;> simp_all
      obtain ⟨y, hcs, hwf⟩ := this
      exact ⟨[.v (.string y)], scalar _ _ hu hcs rfl, .str ht y hwf, by simp [NamelessL, Nameless]⟩
    · rename_i e sz b z ht
      simp only [Bool.and_eq_true] at hcan
      have hu := (hT.ok t _ ht).slice rfl
      rcases DataW.trod_slice hu h with ⟨hcs, _⟩ | ⟨a, len, cap, elems, rest, m, _, hcs, _, hb, hlc, hcm, hel, hread, _⟩
      · refine ⟨[.ro 0 []], ?_, .slice ht [] (by simp) (by simp), by simp [NamelessL, Nameless]⟩
        subst hcs
        simp only [RdL]
        exact ⟨_, [], rfl, rfl, by simp only [Rd]; exact ⟨by simp [NamelessL], none, 0, rfl, Nat.le_refl _, Nat.zero_le _, fun h => absurd h (by omega)⟩, rfl⟩
      · subst hcs
        have each : ∀ i, i < len → ∃ ds : List D, (∃ us, w.cells? base (a.add (i * P.cellsOf e)) (P.cellsOf e) = some us ∧ RdL (ctx ρ (fun k => k < w.heap.size) w []) ds us) ∧ TC T e ds ∧ NamelessL ds := by
          intro i hi
          have h1 := hread i hi
          rw [List.getElem?_eq_getElem (by omega)] at h1
          obtain ⟨us, h2, h3⟩ := Option.bind_eq_some_iff.1 h1
          obtain ⟨ds, h4, h5, h6⟩ := trod_read hT n m e us _ hcan.2 h3
          exact ⟨ds, ⟨us, h2, h4⟩, h5, h6⟩
        obtain ⟨chunks, hcl, hch⟩ := exists_list _ len each
        have cellsAt : ∀ i us, w.cells? base (a.add (i * P.cellsOf e)) (P.cellsOf e) = some us → us.length = P.cellsOf e ∧ ∀ j u, us[j]? = some u → w.cell? (a.add (i * P.cellsOf e + j)) = some u := by
          intro i us hus
          unfold World.cells? at hus
          split at hus
          · have hl := mapM_some_length hus
            rw [List.length_range] at hl
            refine ⟨hl, fun j u hj => ?_⟩
            have hjl : j < P.cellsOf e := by rw [← hl]; exact (List.getElem?_eq_some_iff.1 hj).1
            have := mapM_some_get hus j j (by simp [hjl])
            rw [add_add] at this
            rw [this, hj]
          · cases hus
        refine ⟨[.ro chunks.length chunks.flatten], ?_, .slice ht chunks (by omega) (fun c hc => ?_), ?_⟩
        · simp only [RdL]
          refine ⟨_, [], rfl, rfl, ?_, rfl⟩
          simp only [Rd]
          refine ⟨NamelessL.flatten fun d hd => ?_, some a, cap, by rw [hcl], by omega, hcm, fun h0 => ⟨a, rfl, ?_, ?_⟩⟩
          · obtain ⟨i, hi⟩ := List.getElem?_of_mem hd
            exact (hch i d hi).2.2
          · -- the row lies in the world
            have hpos : 0 < len := by omega
            obtain ⟨c0, hc0⟩ : ∃ c0, chunks[0]? = some c0 := ⟨_, List.getElem?_eq_getElem (by omega)⟩
            obtain ⟨⟨us, hus, hr⟩, htc, _⟩ := hch 0 c0 hc0
            by_cases hz : P.cellsOf e = 0
            · exfalso
              have h2 := hcan.1.2
              split at h2
              · rename_i te hte
                rw [(hT.ok e _ hte).cellsOf] at hz
                simp [hz] at h2
              · cases h2
            · obtain ⟨hl, hcell⟩ := cellsAt 0 us hus
              have : ∃ u, us[0]? = some u := ⟨_, List.getElem?_eq_getElem (by omega)⟩
              obtain ⟨u, hu0⟩ := this
              have := hcell 0 u hu0
              have hlt := World.block_lt_of_cell? w _ this
              rwa [block_add] at hlt
          · refine RdAt.mk _ _ _ fun j x hx => ?_
            have hlen : ∀ d ∈ chunks, d.length = P.cellsOf e := fun d hd => by
              obtain ⟨i, hi⟩ := List.getElem?_of_mem hd
              obtain ⟨⟨us, hus, hr⟩, _⟩ := hch i d hi
              rw [← hr.length, (cellsAt i us hus).1]
            have := RdAt.flatten (E := ctx ρ (fun k => k < w.heap.size) w []) chunks a 0 hlen (fun i d hd j x hx => by
              obtain ⟨⟨us, hus, hr⟩, _⟩ := hch i d hd
              obtain ⟨u, hu1, ho, hd1⟩ := hr.get _ _ j x hx
              exact ⟨u, by rw [Nat.zero_add]; exact (cellsAt i us hus).2 j u hu1, ho, hd1⟩) j x hx
            simpa using this
        · obtain ⟨i, hi⟩ := List.getElem?_of_mem hc
          exact (hch i c hi).2.1
        · simp only [NamelessL, Nameless, and_true]
          exact NamelessL.flatten fun d hd => by
            obtain ⟨i, hi⟩ := List.getElem?_of_mem hd
            exact (hch i d hi).2.2
    · rename_i fs sz b z ht
      simp only [Bool.and_eq_true] at hcan
      obtain ⟨F, hF, hm⟩ := (hT.ok t _ ht).struct rfl
      obtain ⟨xs, m, _, _, hcs, hxs, hread⟩ := DataW.trod_struct hF h
      rw [(hT.ok t _ ht).cellsOf] at hcs
      have hall := List.all_eq_true.1 hcan.2
      have hfl : fs.length = F.size := by rw [← hm]; simp
      have each : ∀ i, i < fs.length → ∃ ds : List D, (∀ f, fs[i]? = some f → RdL (ctx ρ (fun k => k < w.heap.size) w []) ds ((cs.drop f.1).take (P.cellsOf f.2)) ∧ TC T f.2 ds) ∧ NamelessL ds := by
        intro i hi
        have hFi : F[i]? = some (F[i]'(by omega)) := Array.getElem?_eq_getElem (by omega)
        have h1 := hread i _ hFi
        rw [List.getElem?_eq_getElem (by omega)] at h1
        have hfi : fs[i]? = some ((F[i]'(by omega)).offset, (F[i]'(by omega)).type) := by
          have e : (F.toList.map fun f => (f.offset, f.type))[i]? = fs[i]? := by rw [hm]
          rw [← e, List.getElem?_map, Array.getElem?_toList, hFi]; rfl
        obtain ⟨ds, h4, h5, h6⟩ := trod_read hT n m _ _ _ (hall _ (List.mem_of_getElem? hfi)) h1
        refine ⟨ds, fun f hf => ?_, h6⟩
        rw [hfi] at hf; injection hf with hf; subst hf
        exact ⟨h4, h5⟩
      obtain ⟨parts, hpl, hp⟩ := exists_list _ fs.length each
      refine ⟨parts.flatten, ?_, .struct ht parts hpl (fun i p f hpi hfi => ((hp i p hpi).1 f hfi).2), NamelessL.flatten fun d hd => ?_⟩
      · have hcont : ∀ (fs : List (Nat × TypeId)) (off : Nat), contig T fs off sz = true → (fs.map fun f => (cs.drop f.1).take (P.cellsOf f.2)).flatten = cs.drop off := by
          intro fs
          induction fs with
          | nil =>
            intro off hc
            simp only [contig, beq_iff_eq] at hc
            have hcl : cs.length = sz := hcs
            rw [List.drop_eq_nil_of_le (by rw [hcl, hc]; exact Nat.le_refl _)]; rfl
          | cons f fs ih =>
            intro off hc
            obtain ⟨o, ft⟩ := f
            simp only [contig] at hc
            split at hc
            · rename_i ti hti
              simp only [Bool.and_eq_true, beq_iff_eq] at hc
              obtain ⟨rfl, hc⟩ := hc
              rw [List.map_cons, List.flatten_cons, ih _ hc, (hT.ok ft _ hti).cellsOf]
              rw [← List.drop_drop]
              exact List.take_append_drop _ _
            · cases hc
        have h0 := hcont fs 0 hcan.1
        rw [List.drop_zero] at h0
        rw [← h0]
        refine RdL.flatten _ _ (by simp [hpl]) fun i d u hd hu => ?_
        rw [List.getElem?_map] at hu
        cases hfi : fs[i]? with
        | none => simp [hfi] at hu
        | some f =>
          simp only [hfi, Option.map_some, Option.some.injEq] at hu
          subst hu
          exact ((hp i d hd).1 f hfi).1
      · obtain ⟨i, hi⟩ := List.getElem?_of_mem hd
        exact (hp i d hi).2
    · rename_i k e sz b z ht
      simp only [Bool.and_eq_true] at hcan
      have hu := (hT.ok t _ ht).arr rfl
      obtain ⟨xs, m, _, _, hcs, hxs, hread⟩ := DataW.trod_array hu h
      rw [(hT.ok t _ ht).cellsOf] at hcs
      have each : ∀ i, i < k → ∃ ds : List D, (RdL (ctx ρ (fun k => k < w.heap.size) w []) ds ((cs.drop (i * P.cellsOf e)).take (P.cellsOf e)) ∧ TC T e ds) ∧ NamelessL ds := by
        intro i hi
        have h1 := hread i hi
        rw [List.getElem?_eq_getElem (by omega)] at h1
        obtain ⟨ds, h4, h5, h6⟩ := trod_read hT n m e _ _ hcan.1 h1
        exact ⟨ds, ⟨h4, h5⟩, h6⟩
      obtain ⟨chunks, hcl, hch⟩ := exists_list _ k each
      refine ⟨chunks.flatten, ?_, .arr ht chunks hcl (fun c hc => ?_), NamelessL.flatten fun d hd => ?_⟩
      · have hsz : sz = k * P.cellsOf e := by
          have h2 := hcan.2
          split at h2
          · rename_i te hte
            rw [(hT.ok e _ hte).cellsOf]; simpa using h2
          · cases h2
        have hcont : ∀ (m i : Nat), i + m = k → ((List.range' i m).map fun i => (cs.drop (i * P.cellsOf e)).take (P.cellsOf e)).flatten = cs.drop (i * P.cellsOf e) := by
          intro m
          induction m with
          | zero =>
            intro i hi
            have hik : i = k := by omega
            have : cs.length ≤ i * P.cellsOf e := by rw [hcs, hik]; exact Nat.le_of_eq hsz
            simp [List.drop_eq_nil_of_le this]
          | succ m ih =>
            intro i hi
            rw [List.range'_succ, List.map_cons, List.flatten_cons, ih (i + 1) (by omega)]
            rw [Nat.add_mul, Nat.one_mul, ← List.drop_drop]
            exact List.take_append_drop _ _
        have h0 := hcont k 0 (by omega)
        rw [Nat.zero_mul, List.drop_zero] at h0
        rw [← h0]
        refine RdL.flatten _ _ (by simp [hcl]) fun i d u hd hu => ?_
        have hik : i < k := by rw [← hcl]; exact (List.getElem?_eq_some_iff.1 hd).1
        rw [List.getElem?_map, List.getElem?_range' hik] at hu
        simp only [Option.map_some, Option.some.injEq] at hu
        subst hu
        have := (hch i d hd).1.1
        simpa using this
      · obtain ⟨i, hi⟩ := List.getElem?_of_mem hc
        exact (hch i c hi).1.2
      · obtain ⟨i, hi⟩ := List.getElem?_of_mem hd
        exact (hch i d hi).2
    · cases hcan
end
end Go.VD
end
section
namespace Go.VD
open Go.ChangeShapes Go.WideShapes Go.ChangeAt Go.RowKit
set_option linter.unusedVariables false
set_option linter.unusedSimpArgs false
def TArgs (T : Tbl) : List TypeId → List D → Prop
  | [], ds => ds = []
  | t :: ts, ds => ∃ d r, ds = d :: r ∧ (∃ ti cs, T t = some ti ∧ TC T t cs ∧ d = (if ti.td.isAgg then .agg cs else cs.headD default)) ∧ TArgs T ts r
section
variable {H : Type} {enc : TypeId × Value → H} {P : Program} {T : Tbl}
theorem post_below {f : Func} {s : ChangeSpec} {apart fresh handsOn again : Bool} {W W' : World} {args : Array Value} {v : Value} {ds gs : List (DataW H)} {before pa pv : List MemPlace}
    (hW : DataW.Whole enc P f.params.toList s.vars apart W args.toList ds gs before)
    (hres : ∀ (b : Nat) (sp : Nat → Bool) (hd : Bool), DataW.TrodAll enc P W' b sp hd f.resultTypes.toList (v.resultList f.resultTypes.size) (s.fn H (ds ++ gs)).results [])
    (hargs : ∀ sp : Nat → Bool, (∀ p ∈ before, sp p.block = true) → DataW.TrodAll enc P W' 0 sp true f.params.toList args.toList (s.fn H (ds ++ gs)).args pa)
    (hvars : ∀ sp : Nat → Bool, (∀ p ∈ before, sp p.block = true) → DataW.TrodVars enc P W' sp s.vars (s.fn H (ds ++ gs)).vars pv)
    (hps : before = pa ++ pv) (hb : Below W.heap.size W W')
    (hok : ∀ (j : Nat) (t : TypeId) (r : Value), f.resultTypes[j]? = some t → (v.resultList f.resultTypes.size)[j]? = some r → Value.okWide P W' .any 0 t r) :
    s.post enc P f apart fresh handsOn again W args v W' := by
  have hlt : ∀ p ∈ before, p.block < W.heap.size := fun p hp => hW.lt p hp
  have hold : ∀ p ∈ before, (fun b => decide (b < W.heap.size)) p.block = true := fun p hp => by simpa using hlt p hp
  refine ⟨ds, gs, before, [], pa, pv, hW, hres _ _ _, hargs _ hold, hvars _ hold, World.keptBut_mono (fun p hp => ⟨hp, ?_⟩) (hb.frame (· ∈ before)), fun _ => ?_⟩
  · rw [hps, List.mem_append] at hp
    exact Or.inr hp
  · obtain ⟨_, _, _, _, _, hz, hn⟩ := hW
    refine ⟨hok, _, _, ([] ++ pa) ++ pv, ⟨[] ++ pa, pv, trodAll_append (hargs _ (fun _ _ => rfl)) (hres _ _ _), hvars _ (fun _ _ => rfl), rfl, ?_, ?_⟩, ?_⟩
    · intro b off hp
      have hin : MemPlace.cell b off ∈ before := by rw [hps]; simpa using hp
      rw [hb.frozen (hlt _ hin)]
      exact hz b off hin
    · intro ha
      have := hn ha
      rw [hps] at this
      simpa using this
    · intro p hp _
      rw [hps]
      simpa using hp
theorem trodAll_again (hl : laidOutB P = true) {W W' : World} (hb : Below W.heap.size W W') : ∀ (ts : List TypeId) (vs : List Value) (ds : List (DataW H)) (ps : List MemPlace), (∀ t ∈ ts, P.readableRec t = true ∧ t < P.types.size) →
    DataW.TrodAll enc P W 0 (fun _ => true) true ts vs ds ps → ∀ sp : Nat → Bool, (∀ p ∈ ps, p.block < W.heap.size) → (∀ p ∈ ps, sp p.block = true) → DataW.TrodAll enc P W' 0 sp true ts vs ds ps
  | [], vs, ds, ps, _, h, sp, hlt, hsp => by
    cases vs <;> cases ds <;> simp_all [DataW.TrodAll]
  | t :: ts, vs, ds, ps, ht, h, sp, hlt, hsp => by
    obtain ⟨v, vs', d, ds', p, q, rfl, rfl, rfl, h1, h2⟩ := trodAll_cons h
    obtain ⟨hr, hrow⟩ := ht t (by simp)
    refine ⟨p, q, WideElems.Trod_stays hl hr hrow h1 (fun x hx => hb.same (hlt x (by simp [hx]))) (fun x hx => hsp x (by simp [hx])), trodAll_again hl hb ts vs' ds' q (fun t ht' => ht t (by simp [ht'])) h2 sp (fun x hx => hlt x (by simp [hx])) (fun x hx => hsp x (by simp [hx])), rfl⟩
theorem args_read (hT : TblOk P T) {ρ : Nat → Nat × Nat} {W : World} : ∀ (ts : List TypeId) (vs : List Value) (ds : List (DataW H)) (ps : List MemPlace), (∀ t ∈ ts, canRead T 20 t = true) →
    (∀ (j : Nat) t v, ts[j]? = some t → vs[j]? = some v → ∃ base, Value.okWide P W .any base t v) → DataW.TrodAll enc P W 0 (fun _ => true) true ts vs ds ps →
    ∃ es, TArgs T ts es ∧ RdT (ctx ρ (fun k => k < W.heap.size) W []) es vs
  | [], vs, ds, ps, _, _, h => by
    cases vs <;> cases ds <;> simp_all [DataW.TrodAll]
    exact ⟨[], by simp [TArgs], by simp [RdT]⟩
  | t :: ts, vs, ds, ps, hcan, hok, h => by
    obtain ⟨v, vs', d, ds', p, q, rfl, rfl, rfl, ⟨fuel, h1⟩, h2⟩ := trodAll_cons h
    obtain ⟨es, he1, he2⟩ := args_read hT (ρ := ρ) ts vs' ds' q (fun t ht => hcan t (by simp [ht])) (fun j t' v' hj hv => hok (j + 1) t' v' (by simpa using hj) (by simpa using hv)) h2
    obtain ⟨base, hv⟩ := hok 0 t v (by simp) (by simp)
    have hc := hcan t (by simp)
    obtain ⟨cs, hr, htc, hn⟩ := trod_read hT (ρ := ρ) 20 fuel t v.cells.toList _ hc h1
    have key : ∃ ti, T t = some ti ∧ Rd (ctx ρ (fun k => k < W.heap.size) W []) (if ti.td.isAgg then .agg cs else cs.headD default) v := by
      have one : ∀ (ti : TI) (e : D), T t = some ti → ti.td.isAgg = false → cs = [e] → v.cells = #[v] → ∃ ti, T t = some ti ∧ Rd (ctx ρ (fun k => k < W.heap.size) W []) (if ti.td.isAgg then .agg cs else cs.headD default) v := by
        intro ti e ht hag hcs hv
        refine ⟨ti, ht, ?_⟩
        rw [hag, hcs]
        rw [hv, hcs] at hr
        simp only [RdL] at hr
        obtain ⟨u, r, hu, _, hd, _⟩ := hr
        simp only [List.cons.injEq] at hu
        obtain ⟨rfl, _⟩ := hu
        simpa using hd
      cases htc with
      | bool ht x => obtain ⟨b, rfl⟩ := okWide_bool ((hT.ok t _ ht).bool rfl) hv; exact one _ _ ht rfl rfl rfl
      | int ht n hn => obtain ⟨b, rfl⟩ := okWide_int ((hT.ok t _ ht).int rfl) hv; exact one _ _ ht rfl rfl rfl
      | str ht s hs => obtain ⟨b, rfl⟩ := okWide_string ((hT.ok t _ ht).str rfl) hv; exact one _ _ ht rfl rfl rfl
      | slice ht chunks hl hcc => obtain ⟨a, n, c, rfl⟩ := okWide_slice ((hT.ok t _ ht).slice rfl) hv; exact one _ _ ht rfl rfl rfl
      | struct ht parts hl hp =>
        obtain ⟨F, hF, _⟩ := (hT.ok t _ ht).struct rfl
        obtain ⟨us, rfl, _⟩ := okWide_struct hF hv
        refine ⟨_, ht, ?_⟩
        simp only [TD.isAgg, if_true, Rd]
        exact ⟨us, rfl, hr⟩
      | arr ht chunks hl hcc =>
        have hu := (hT.ok t _ ht).arr rfl
        have : ∃ us, v = .agg us := by
          simp only [Value.okWide, hu] at hv
          obtain ⟨us, e, _⟩ := hv
          exact ⟨us, e⟩
        obtain ⟨us, rfl⟩ := this
        refine ⟨_, ht, ?_⟩
        simp only [TD.isAgg, if_true, Rd]
        exact ⟨us, rfl, hr⟩
    obtain ⟨ti, hti, hrd⟩ := key
    refine ⟨(if ti.td.isAgg then .agg cs else cs.headD default) :: es, ?_, ?_⟩
    · simp only [TArgs]; exact ⟨_, es, rfl, ⟨ti, cs, hti, htc, rfl⟩, he1⟩
    · simp only [RdT]; exact ⟨v, vs', rfl, hrd, he2⟩
theorem law_contract {f : FuncId} {fn : Func} {s : ChangeSpec} {tb : TypeId} (hT : TblOk P T) (hl : laidOutB P = true) (hparams : ∀ t ∈ fn.params.toList, P.readableRec t = true ∧ t < P.types.size ∧ canRead T 20 t = true)
    (hres : fn.resultTypes = #[tb]) (htb : P.underlying tb = some .bool) (hvars : s.vars = [])
    (hspec : ∀ (ds : List (DataW H)), ds.length = fn.params.size → (s.fn H ds).results = [.lit (.bool true)] ∧ (s.fn H ds).args = ds ∧ (s.fn H ds).vars = [])
    (law : ∀ es, TArgs T fn.params.toList es → PureJ P f es (.v (.bool true)))
    (W : World) (hG : GOK (fun k => k < W.heap.size) W) (base : Nat) (args : Array Value) (ds gs : List (DataW H)) (before : List MemPlace) (hval : ∀ (j : Nat) t v, fn.params[j]? = some t → args[j]? = some v → Value.okWide P W .any base t v)
    (hW : DataW.Whole enc P fn.params.toList s.vars false W args.toList ds gs before) :
    Calls P f args W fun e W' => ∃ v, e = .returned v ∧ s.post enc P fn false true false false W args v W' := by
  have hW' := hW
  obtain ⟨p, q, hA, hV, hpq, hfz, hnd⟩ := hW
  rw [hvars] at hV
  have hg : gs = [] ∧ q = [] := by
    cases gs <;> simp_all [DataW.TrodVars]
  obtain ⟨rfl, rfl⟩ := hg
  rw [List.append_nil] at hpq
  subst hpq
  obtain ⟨es, he1, he2⟩ := args_read hT (ρ := fun _ => (0, 0)) fn.params.toList args.toList ds before (fun t ht => (hparams t ht).2.2) (fun j t v hj hv => ⟨base, hval j t v (by simpa using hj) (by simpa using hv)⟩) hA
  have hlen : ds.length = fn.params.size := by
    have : ∀ (ts : List TypeId) (vs : List Value) (ds : List (DataW H)) (ps : List MemPlace), DataW.TrodAll enc P W 0 (fun _ => true) true ts vs ds ps → ds.length = ts.length := by
      intro ts
      induction ts with
      | nil => intro vs ds ps h; cases vs <;> cases ds <;> simp_all [DataW.TrodAll]
      | cons t ts ih =>
        intro vs ds ps h
        obtain ⟨v, vs', d, ds', p, q, rfl, rfl, rfl, h1, h2⟩ := trodAll_cons h
        simp [ih _ _ _ h2]
    have := this _ _ _ _ hA
    simpa using this
  obtain ⟨hs1, hs2, hs3⟩ := hspec ds hlen
  have hcall := (law es he1).call (fun k => k < W.heap.size) W args.toList (fun _ h => h) hG he2
  rw [show args.toList.toArray = args from by simp] at hcall
  refine hcall.mono fun e W' ⟨v, S', he, hgr, _, _, _, hr⟩ => ?_
  simp only [Rd] at hr
  subst hr
  have hb : Below W.heap.size W W' := ⟨hgr.os, hgr.tape, hgr.output, hgr.size, hgr.heap⟩
  refine ⟨_, he, post_below (pa := before) (pv := []) hW' (fun b sp hd => ?_) (fun sp hsp => ?_) (fun sp _ => ?_) (by simp) hb (ok_one hres rfl (okWide_bool_mk htb _))⟩
  · rw [List.append_nil, hs1, hres]
    exact trodAll_cons_mk (shut_bool htb _) trodAll_mk0
  · rw [List.append_nil, hs2]
    exact trodAll_again hl hb _ _ _ _ (fun t ht => ⟨(hparams t ht).1, (hparams t ht).2.1⟩) hA sp (fun p hp => hW'.lt p hp) hsp
  · rw [List.append_nil, hs3, hvars]; rfl
end
end Go.VD
end
