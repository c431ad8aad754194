import Derived.Test.YtfleadelfklenaaGreatDoorZGw10
section
namespace Go.VD
set_option linter.unusedVariables false
set_option linter.unusedSimpArgs false
structure Ctx.lek (k : Nat) (E E' : Ctx) : Prop where
  m : E.lem E'
  ρ : ∀ b, b < k → E'.ρ b = E.ρ b
theorem Ctx.lek.refl (k : Nat) (E : Ctx) : E.lek k E := ⟨Ctx.lem.refl E, fun _ _ => rfl⟩
theorem Ctx.lek.trans {k : Nat} {E E' E'' : Ctx} (h : E.lek k E') (g : E'.lek k E'') : E.lek k E'' := ⟨h.m.trans g.m, fun b hb => (g.ρ b hb).trans (h.ρ b hb)⟩
theorem Ctx.le.lek {k : Nat} {E E' : Ctx} (h : E.le E') (hk : k ≤ E.H.length) : E.lek k E' := ⟨h.lem, fun b hb => h.ρ b (Nat.lt_of_lt_of_le hb hk)⟩
def DWK (k : Nat) (P : Program) (nt : Nat) (c : Code) (Q : Exit → Env → Heap → Prop) (env : Env) (H : Heap) : Prop :=
  k ≤ H.length → ∀ ρ S w a, Inv nt ρ S w H env a → c.wp P (fun e a' w' => ∃ env' H' ρ' S', Q e env' H' ∧ k ≤ H'.length ∧ Inv nt ρ' S' w' H' env' a' ∧ (ctx ρ S w H).lek k (ctx ρ' S' w' H')) a w
theorem DW.dwk {k : Nat} {P : Program} {nt : Nat} {c : Code} {Q : Exit → Env → Heap → Prop} {env : Env} {H : Heap} (h : DW P nt c Q env H) : DWK k P nt c Q env H :=
  fun hk ρ S w a hi => wp_mono (h ρ S w a hi) fun e a' w' ⟨env', H', ρ', S', h1, h2, h3⟩ => ⟨env', H', ρ', S', h1, Nat.le_trans hk h3.N, h2, h3.lek hk⟩
theorem DWK.mono {k : Nat} {P : Program} {nt : Nat} {c : Code} {Q Q' : Exit → Env → Heap → Prop} {env : Env} {H : Heap} (h : DWK k P nt c Q env H) (hq : ∀ e env H, Q e env H → Q' e env H) : DWK k P nt c Q' env H :=
  fun hk ρ S w a hi => wp_mono (h hk ρ S w a hi) fun e a' w' ⟨env', H', ρ', S', h1, h2⟩ => ⟨env', H', ρ', S', hq _ _ _ h1, h2⟩
def ViewK (k nt : Nat) (env : Env) (H : Heap) (env2 : Env) (H2 : Heap) : Prop :=
  k ≤ H.length → k ≤ H2.length ∧ ∀ ρ S w a, Inv nt ρ S w H env a → ∃ ρ' S', Inv nt ρ' S' w H2 env2 a ∧ (ctx ρ S w H).lek k (ctx ρ' S' w H2)
theorem DWK.view {k : Nat} {P : Program} {nt : Nat} {c : Code} {Q : Exit → Env → Heap → Prop} {env env2 : Env} {H H2 : Heap} (v : ViewK k nt env H env2 H2) (h : DWK k P nt c Q env2 H2) : DWK k P nt c Q env H := by
  intro hk ρ S w a hi
  obtain ⟨hk2, v⟩ := v hk
  obtain ⟨ρ', S', hi', hle⟩ := v ρ S w a hi
  exact wp_mono (h hk2 ρ' S' w a hi') fun e a' w' ⟨env', H', ρ'', S'', h1, h2, h3, h4⟩ => ⟨env', H', ρ'', S'', h1, h2, h3, hle.trans h4⟩
theorem DWK.post {k : Nat} {P : Program} {nt : Nat} {c : Code} {Q : Exit → Env → Heap → Prop} {env : Env} {H : Heap} (h : DWK k P nt c (fun e env' H' => ∃ env2 H2, ViewK k nt env' H' env2 H2 ∧ Q e env2 H2) env H) : DWK k P nt c Q env H := by
  intro hk ρ S w a hi
  refine wp_mono (h hk ρ S w a hi) fun e a' w' ⟨env', H', ρ', S', ⟨env2, H2, v, hq⟩, h2, h3, h4⟩ => ?_
  obtain ⟨hk2, v⟩ := v h2
  obtain ⟨ρ'', S'', hi', hle⟩ := v ρ' S' w' a' h3
  exact ⟨env2, H2, ρ'', S'', hq, hk2, hi', h4.trans hle⟩
theorem DWK.loop {k : Nat} {P : Program} {nt : Nat} {α : Type} (J : α → Prop) (I : α → Env) (HI : α → Heap) (μ : α → Nat) {c : Code} {Q : Exit → Env → Heap → Prop} (x0 : α) (h0 : J x0)
    (round : ∀ x, J x → DWK k P nt c (thenQ (fun env' H' => ∃ y, μ y < μ x ∧ J y ∧ ViewK k nt env' H' (I y) (HI y)) Q) (I x) (HI x)) : DWK k P nt (.loop c) Q (I x0) (HI x0) := by
  intro hk ρ S w a hi
  refine wp_loop_ghost (fun n a' w' => ∃ x ρ' S', μ x = n ∧ J x ∧ k ≤ (HI x).length ∧ Inv nt ρ' S' w' (HI x) (I x) a' ∧ (ctx ρ S w (HI x0)).lek k (ctx ρ' S' w' (HI x))) (μ x0) ⟨x0, ρ, S, rfl, h0, hk, hi, Ctx.lek.refl _ _⟩ ?_
  rintro n a' w' ⟨x, ρ', S', rfl, hx, hkx, hi', hle⟩
  refine wp_mono (round x hx hkx ρ' S' w' a' hi') fun e a'' w'' ⟨env', H', ρ'', S'', h1, h2, h3, h4⟩ => ?_
  cases e with
  | normal =>
    obtain ⟨y, hy, hJ, v⟩ := h1
    obtain ⟨hk2, v⟩ := v h2
    obtain ⟨ρ3, S3, hi3, hle3⟩ := v ρ'' S'' w'' a'' h3
    exact ⟨μ y, hy, y, ρ3, S3, rfl, hJ, hk2, hi3, (hle.trans h4).trans hle3⟩
  | _ => exact ⟨env', H', ρ'', S'', h1, h2, h3, hle.trans h4⟩
inductive KE where
  | new
  | dead
  | old (b : Nat)
  | nam (b : Nat)
  | sam (b : Nat)
def KE.id : KE → Option Nat
  | .old b => some b
  | .nam b => some b
  | .sam b => some b
  | _ => none
def kO (keep : List KE) : List (Option Nat) := keep.map KE.id
def firstK (keep : List KE) (k : Nat) : Bool := Nat.ble k keep.length && (List.range k).all fun i => match keep[i]? with
  | some .dead => true
  | some e => match e.id with
    | some b => Nat.beq b i
    | none => false
  | none => false
def nilOkK (keep : List KE) : D → D → Prop
  | .v (.slice none 0 0), .sl i 0 0 (.toEnd _) => match keep[i]? with
    | some .new => True
    | _ => False
  | _, _ => False
def viewOkK (keep : List KE) (H : Heap) (d d2 : D) : Prop :=
  bif isNilSl d d2 then nilOkK keep d d2 else (match viewD (kO keep) H d with
    | some (e, c) => c ∧ e = d2
    | none => False)
def viewEnvK (keep : List KE) (H : Heap) (env : Env) : Env → Prop
  | [] => True
  | (t, d2) :: r => (match env.lookup t with
    | some d => viewOkK keep H d d2
    | none => False) ∧ viewEnvK keep H env r
def viewCells (keep : List KE) (H : Heap) : List D → List D → Prop
  | [], es => es = []
  | d :: ds, e :: es => viewOkK keep H d e ∧ viewCells keep H ds es
  | _ :: _, [] => False
def samB (ks : List (Option Nat)) (c : Nat) : Bool := match idxOf ks c with
  | some i => Nat.beq i c
  | none => false
theorem samB_ok {ks : List (Option Nat)} {l : List Nat} (h : l.all (samB ks) = true) : ∀ c ∈ l, idxOf ks c = some c := by
  intro c hc
  have := List.all_eq_true.1 h c hc
  unfold samB at this
  split at this
  · rename_i i hi; rw [hi, Nat.eq_of_beq_eq_true this]
  · cases this
def viewHeapK (all : List KE) (H : Heap) : List KE → Heap → Prop
  | [], H2 => H2 = []
  | .old b :: ks, x :: xs => (match blkRaw H b with
    | some blk => x = some blk ∧ NamelessL blk.cs
    | none => False) ∧ viewHeapK all H ks xs
  | .nam b :: ks, some ⟨ty, cs, full⟩ :: xs => (match blkAt H b with
    | some blk => (blk.ty = ty ∧ blk.full = full) ∧ viewCells all H blk.cs cs
    | none => False) ∧ viewHeapK all H ks xs
  | .sam b :: ks, x :: xs => (match blkRaw H b with
    | some blk => x = some blk ∧ (namesD.namesA blk.cs).all (samB (kO all)) = true
    | none => False) ∧ viewHeapK all H ks xs
  | .new :: ks, some ⟨_, cs, _⟩ :: xs => cs = [] ∧ viewHeapK all H ks xs
  | .dead :: ks, none :: xs => viewHeapK all H ks xs
  | _, _ => False
def viewAllK (k : Nat) (keep : List KE) (env : Env) (H : Heap) (env2 : Env) (H2 : Heap) : Prop := (firstK keep k && nodupB (kO keep)) = true ∧ viewHeapK keep H keep H2 ∧ viewEnvK keep H env env2
def BlkFrom (keep : List KE) (H : Heap) (b : Nat) (blk2 : Blk) : Prop := ∃ blk, H[b]? = some (some blk) ∧ ((blk2 = blk ∧ NamelessL blk.cs) ∨ ((blk.ty = blk2.ty ∧ blk.full = blk2.full ∧ blk.ty ≠ itTy) ∧ viewCells keep H blk.cs blk2.cs) ∨ (blk2 = blk ∧ ∀ c ∈ namesD.namesA blk.cs, idxOf (kO keep) c = some c))
section
variable {keep : List KE} {H H2 : Heap} {ρ : Nat → Nat × Nat} {S : Nat → Prop} {w : World}
theorem viewHeapK_get {all : List KE} : ∀ (ks : List KE) (H2 : Heap), viewHeapK all H ks H2 → H2.length = ks.length ∧ ∀ (i : Nat) (blk : Blk), H2[i]? = some (some blk) → (∃ e b, ks[i]? = some e ∧ e.id = some b ∧ BlkFrom all H b blk) ∨ (ks[i]? = some .new ∧ blk.cs = [])
  | [], H2, h => by simp only [viewHeapK] at h; subst h; simp
  | e :: ks, [], h => by cases e <;> simp [viewHeapK] at h
  | .old b :: ks, x :: xs, h => by
    simp only [viewHeapK] at h
    obtain ⟨h1, h2⟩ := h
    obtain ⟨hl, ih⟩ := viewHeapK_get ks xs h2
    split at h1
    · rename_i blk0 hb
      obtain ⟨rfl, hn⟩ := h1
      refine ⟨by simp [hl], fun i blk hi => ?_⟩
      cases i with
      | zero =>
        simp at hi; subst hi
        exact .inl ⟨.old b, b, by simp, rfl, blk0, blkRaw_some hb, .inl ⟨rfl, hn⟩⟩
      | succ i => simpa using ih i blk (by simpa using hi)
    · exact h1.elim
  | .sam b :: ks, x :: xs, h => by
    simp only [viewHeapK] at h
    obtain ⟨h1, h2⟩ := h
    obtain ⟨hl, ih⟩ := viewHeapK_get ks xs h2
    split at h1
    · rename_i blk0 hb
      obtain ⟨rfl, hn⟩ := h1
      refine ⟨by simp [hl], fun i blk hi => ?_⟩
      cases i with
      | zero =>
        simp at hi; subst hi
        exact .inl ⟨.sam b, b, by simp, rfl, blk0, blkRaw_some hb, .inr (.inr ⟨rfl, samB_ok hn⟩)⟩
      | succ i => simpa using ih i blk (by simpa using hi)
    · exact h1.elim
  | .nam b :: ks, none :: xs, h => by simp [viewHeapK] at h
  | .nam b :: ks, some ⟨ty, cs, f⟩ :: xs, h => by
    simp only [viewHeapK] at h
    obtain ⟨h1, h2⟩ := h
    obtain ⟨hl, ih⟩ := viewHeapK_get ks xs h2
    split at h1
    · rename_i blk0 hb
      obtain ⟨⟨rfl, rfl⟩, hn⟩ := h1
      refine ⟨by simp [hl], fun i blk hi => ?_⟩
      cases i with
      | zero =>
        simp at hi; subst hi
        exact .inl ⟨.nam b, b, by simp, rfl, blk0, blkAt_some hb, .inr (.inl ⟨⟨rfl, rfl, blkAt_ty hb⟩, hn⟩)⟩
      | succ i => simpa using ih i blk (by simpa using hi)
    · exact h1.elim
  | .new :: ks, none :: xs, h => by simp [viewHeapK] at h
  | .new :: ks, some ⟨ty, cs, f⟩ :: xs, h => by
    simp only [viewHeapK] at h
    obtain ⟨h1, h2⟩ := h
    obtain ⟨hl, ih⟩ := viewHeapK_get ks xs h2
    refine ⟨by simp [hl], fun i blk hi => ?_⟩
    cases i with
    | zero => simp at hi; subst hi; exact .inr ⟨by simp, h1⟩
    | succ i => simpa using ih i blk (by simpa using hi)
  | .dead :: ks, some _ :: xs, h => by simp [viewHeapK] at h
  | .dead :: ks, none :: xs, h => by
    simp only [viewHeapK] at h
    obtain ⟨hl, ih⟩ := viewHeapK_get ks xs h
    refine ⟨by simp [hl], fun i blk hi => ?_⟩
    cases i with
    | zero => simp at hi
    | succ i => simpa using ih i blk (by simpa using hi)
def reρK (k : Nat) (keep : List KE) (ρ : Nat → Nat × Nat) : Nat → Nat × Nat := fun i => if i < k then ρ i else reρ (kO keep) ρ i
theorem kO_get {e : KE} {i : Nat} (h : keep[i]? = some e) : (kO keep)[i]? = some e.id := by simp [kO, h]
theorem kO_id {i b : Nat} (h : (kO keep)[i]? = some (some b)) : ∃ e, keep[i]? = some e ∧ e.id = some b := by
  simp only [kO, List.getElem?_map, Option.map_eq_some_iff] at h
  exact h
theorem firstK_get {k i : Nat} (h : firstK keep k = true) (hi : i < k) : keep[i]? = some .dead ∨ ∃ e, keep[i]? = some e ∧ e.id = some i := by
  simp only [firstK, Bool.and_eq_true] at h
  have := List.all_eq_true.1 h.2 i (List.mem_range.2 hi)
  split at this
  · exact .inl (by assumption)
  · rename_i e hne he
    split at this
    · rename_i b hb
      exact .inr ⟨e, he, by rw [hb, Nat.eq_of_beq_eq_true this]⟩
    · cases this
  · cases this
theorem firstK_len {k : Nat} (h : firstK keep k = true) : k ≤ keep.length := by
  simp only [firstK, Bool.and_eq_true] at h
  exact Nat.le_of_ble_eq_true h.1
theorem reρK_at {k : Nat} (hf : firstK keep k = true) {i b : Nat} {e : KE} (h : keep[i]? = some e) (he : e.id = some b) : reρK k keep ρ i = ρ b := by
  unfold reρK
  by_cases hi : i < k
  · rw [if_pos hi]
    rcases firstK_get hf hi with h2 | ⟨e2, h2, he2⟩
    · rw [h] at h2; injection h2 with h2; subst h2; cases he
    · rw [h] at h2; injection h2 with h2; subst h2
      rw [he] at he2; injection he2 with he2; rw [he2]
  · rw [if_neg hi]
    have := kO_get h
    rw [he] at this
    simp only [reρ, this]
theorem reρK_new {k : Nat} (hf : firstK keep k = true) {i : Nat} (h : keep[i]? = some .new) : reρK k keep ρ i = (0, 0) := by
  unfold reρK
  by_cases hi : i < k
  · rcases firstK_get hf hi with h2 | ⟨e2, h2, he2⟩
    · rw [h] at h2; cases h2
    · rw [h] at h2; injection h2 with h2; subst h2; cases he2
  · rw [if_neg hi]
    have := kO_get h
    simp only [reρ, this, KE.id]
theorem viewK_live {k : Nat} (hf : firstK keep k = true) (hh : viewHeapK keep H keep H2) {x : Nat} (h : Live (reρK k keep ρ) H2 x) : ∃ b blk, some b ∈ kO keep ∧ H[b]? = some (some blk) ∧ 0 < (ρ b).2 ∧ (ρ b).1 = x := by
  obtain ⟨i, blk, hi, hz, hk⟩ := h
  rcases (viewHeapK_get _ _ hh).2 i blk hi with ⟨e, b, h1, h2, blk0, h3, _⟩ | ⟨h1, _⟩
  · rw [reρK_at hf h1 h2] at hz hk
    exact ⟨b, blk0, List.mem_of_getElem? (by rw [kO_get h1, h2]), h3, hz, hk⟩
  · rw [reρK_new hf h1] at hz
    exact absurd hz (by simp)
theorem viewK_lek {k : Nat} (hS : St ρ S w H) (hf : firstK keep k = true) (hh : viewHeapK keep H keep H2) : (ctx ρ S w H).lek k (ctx (reρK k keep ρ) (reS (kO keep) ρ H S) w H2) :=
  ⟨⟨fun k h => .inl h, fun _ _ => rfl, fun k h => by
    rcases h with h | ⟨b, blk, h1, _, h2, h3⟩
    · exact .inl h
    · exact .inr (.inl ⟨b, blk, h1, h2, h3⟩),
   fun k h => ⟨h.1, fun hl => by
    obtain ⟨b, blk, _, h1, h2, h3⟩ := viewK_live hf hh hl
    exact h.2 ⟨b, blk, h1, h2, h3⟩⟩, fun _ _ => rfl, Nat.le_refl _, rfl, rfl, rfl⟩, fun b hb => if_pos hb⟩
theorem seal_nameless {d e : D} {c : Prop} (hd : (∃ b off n cp, d = .sl b off n cp) ∨ ∃ b off, d = .ptr b off) (h : sealD H d = some (e, c)) (hc : c) : Nameless e := by
  rcases hd with ⟨b, off, n, cp, rfl⟩ | ⟨b, off, rfl⟩
  · simp only [sealD] at h
    split at h
    · cases cp <;> (simp only at h; obtain ⟨rfl, rfl⟩ := pair_inj h; simp only [Nameless]; exact (hc.1.drop _).take _)
    · cases h
  · simp only [sealD] at h
    split at h
    · obtain ⟨rfl, rfl⟩ := pair_inj h; simp only [Nameless]; exact hc.1
    · cases h
section
variable {ks : List (Option Nat)} {ρ2 : Nat → Nat × Nat}
mutual
theorem viewD_rdK (hS : St ρ S w H) (hl2 : H2.length = ks.length) (hρ : ∀ i b, ks[i]? = some (some b) → ρ2 i = ρ b) : ∀ (d e : D) (c : Prop) (u : Value), viewD ks H d = some (e, c) → c → Rd (ctx ρ S w H) d u → Rd (ctx ρ2 (reS ks ρ H S) w H2) e u
  | .v x, e, c, u, h, hc, hr => by simp only [viewD] at h; obtain ⟨rfl, rfl⟩ := pair_inj h; simpa [Rd] using hr
  | .ro n xs, e, c, u, h, hc, hr => by
    simp only [viewD] at h; obtain ⟨rfl, rfl⟩ := pair_inj h
    have hnl : NamelessL xs := by simp only [Rd] at hr; exact hr.1
    exact hr.moveS (fun k hk => .inl hk) (by simpa [Nameless] using hnl)
  | .rp xs j, e, c, u, h, hc, hr => by
    simp only [viewD] at h; obtain ⟨rfl, rfl⟩ := pair_inj h
    have hnl : NamelessL xs := by simp only [Rd] at hr; exact hr.1
    exact hr.moveS (fun k hk => .inl hk) (by simpa [Nameless] using hnl)
  | .sl b off n cp, e, c, u, h, hc, hr => by
    simp only [viewD] at h
    split at h
    · rename_i i hi
      obtain ⟨rfl, rfl⟩ := pair_inj h
      have hk := idxOf_some hi
      have hlt : i < H2.length := by rw [hl2]; exact (List.getElem?_eq_some_iff.1 hk).1
      have hρ1 := hρ i b hk
      cases cp with
      | exact c0 es => simp only [Rd] at hr ⊢; rw [hρ1]; exact ⟨hlt, hr.2⟩
      | toEnd es => simp only [Rd] at hr ⊢; rw [hρ1]; exact ⟨hlt, hr.2⟩
    · rename_i hi
      have h1 := seal_rd (H2 := H2) hS (idxOf_go_none ks 0 b hi) (.inl ⟨off, n, cp, rfl⟩) h hc hr
      exact h1.move (seal_nameless (.inl ⟨b, off, n, cp, rfl⟩) h hc)
  | .ptr b off, e, c, u, h, hc, hr => by
    simp only [viewD] at h
    split at h
    · rename_i i hi
      obtain ⟨rfl, rfl⟩ := pair_inj h
      have hk := idxOf_some hi
      have hlt : i < H2.length := by rw [hl2]; exact (List.getElem?_eq_some_iff.1 hk).1
      simp only [Rd] at hr ⊢; rw [hρ i b hk]; exact ⟨hlt, hr.2⟩
    · rename_i hi
      have h1 := seal_rd (H2 := H2) hS (idxOf_go_none ks 0 b hi) (.inr ⟨off, rfl⟩) h hc hr
      exact h1.move (seal_nameless (.inr ⟨b, off, rfl⟩) h hc)
  | .agg xs, e, c, u, h, hc, hr => by
    simp only [viewD] at h
    split at h
    · rename_i ys c' hl
      obtain ⟨rfl, rfl⟩ := pair_inj h
      simp only [Rd] at hr ⊢
      obtain ⟨us, hu, hr⟩ := hr
      exact ⟨us, hu, viewL_rdK hS hl2 hρ xs ys _ us.toList hl hc hr⟩
    · cases h
  | .tup xs, e, c, u, h, hc, hr => by
    simp only [viewD] at h
    split at h
    · rename_i ys c' hl
      obtain ⟨rfl, rfl⟩ := pair_inj h
      simp only [Rd] at hr ⊢
      obtain ⟨us, hu, hr⟩ := hr
      exact ⟨us, hu, viewT_rdK hS hl2 hρ xs ys _ us.toList hl hc hr⟩
    · cases h
  | .ifc t d, e, c, u, h, hc, hr => by
    simp only [viewD] at h
    split at h
    · rename_i y c' hl
      obtain ⟨rfl, rfl⟩ := pair_inj h
      simp only [Rd] at hr ⊢
      obtain ⟨x, hu, hr⟩ := hr
      exact ⟨x, hu, viewD_rdK hS hl2 hρ d y _ x hl hc hr⟩
    · cases h
  | .fn f k caps, e, c, u, h, hc, hr => by
    simp only [viewD] at h
    split at h
    · rename_i ys c' hl
      obtain ⟨rfl, rfl⟩ := pair_inj h
      simp only [Rd] at hr ⊢
      obtain ⟨fs, us, hu, hk, hr⟩ := hr
      exact ⟨fs, us, hu, hk, viewT_rdK hS hl2 hρ caps ys _ _ hl hc hr⟩
    · cases h
theorem viewL_rdK (hS : St ρ S w H) (hl2 : H2.length = ks.length) (hρ : ∀ i b, ks[i]? = some (some b) → ρ2 i = ρ b) : ∀ (ds es : List D) (c : Prop) (us : List Value), viewL ks H ds = some (es, c) → c → RdL (ctx ρ S w H) ds us → RdL (ctx ρ2 (reS ks ρ H S) w H2) es us
  | [], es, c, us, h, hc, hr => by simp only [viewL] at h; obtain ⟨rfl, rfl⟩ := pair_inj h; simpa [RdL] using hr
  | d :: ds, es, c, us, h, hc, hr => by
    simp only [viewL] at h
    split at h
    · rename_i e c1 es' c2 h1 h2
      obtain ⟨rfl, rfl⟩ := pair_inj h
      simp only [RdL] at hr ⊢
      obtain ⟨u, r, hu, ho, hd, hr⟩ := hr
      exact ⟨u, r, hu, ho, viewD_rdK hS hl2 hρ d e _ u h1 hc.1 hd, viewL_rdK hS hl2 hρ ds es' _ r h2 hc.2 hr⟩
    · cases h
theorem viewT_rdK (hS : St ρ S w H) (hl2 : H2.length = ks.length) (hρ : ∀ i b, ks[i]? = some (some b) → ρ2 i = ρ b) : ∀ (ds es : List D) (c : Prop) (us : List Value), viewL ks H ds = some (es, c) → c → RdT (ctx ρ S w H) ds us → RdT (ctx ρ2 (reS ks ρ H S) w H2) es us
  | [], es, c, us, h, hc, hr => by simp only [viewL] at h; obtain ⟨rfl, rfl⟩ := pair_inj h; simpa [RdT] using hr
  | d :: ds, es, c, us, h, hc, hr => by
    simp only [viewL] at h
    split at h
    · rename_i e c1 es' c2 h1 h2
      obtain ⟨rfl, rfl⟩ := pair_inj h
      simp only [RdT] at hr ⊢
      obtain ⟨u, r, hu, hd, hr⟩ := hr
      exact ⟨u, r, hu, viewD_rdK hS hl2 hρ d e _ u h1 hc.1 hd, viewT_rdK hS hl2 hρ ds es' _ r h2 hc.2 hr⟩
    · cases h
end
mutual
theorem sam_rd (hl2 : H2.length = ks.length) (hρ : ∀ i b, ks[i]? = some (some b) → ρ2 i = ρ b) : ∀ (d : D) (u : Value), (∀ c ∈ namesD d, idxOf ks c = some c) → Rd (ctx ρ S w H) d u → Rd (ctx ρ2 (reS ks ρ H S) w H2) d u
  | .v x, u, h, hr => by simpa [Rd] using hr
  | .ro n xs, u, h, hr => hr.moveS (fun k hk => .inl hk) (by simp only [Rd] at hr; simpa [Nameless] using hr.1)
  | .rp xs j, u, h, hr => hr.moveS (fun k hk => .inl hk) (by simp only [Rd] at hr; simpa [Nameless] using hr.1)
  | .sl b off n cp, u, h, hr => by
    have hk := idxOf_some (h b (by simp [namesD]))
    have hlt : b < H2.length := by rw [hl2]; exact (List.getElem?_eq_some_iff.1 hk).1
    cases cp with
    | exact c0 es => simp only [Rd] at hr ⊢; rw [hρ b b hk]; exact ⟨hlt, hr.2⟩
    | toEnd es => simp only [Rd] at hr ⊢; rw [hρ b b hk]; exact ⟨hlt, hr.2⟩
  | .ptr b off, u, h, hr => by
    have hk := idxOf_some (h b (by simp [namesD]))
    have hlt : b < H2.length := by rw [hl2]; exact (List.getElem?_eq_some_iff.1 hk).1
    simp only [Rd] at hr ⊢; rw [hρ b b hk]; exact ⟨hlt, hr.2⟩
  | .agg xs, u, h, hr => by
    simp only [Rd] at hr ⊢
    obtain ⟨us, hu, hr⟩ := hr
    exact ⟨us, hu, samL_rd hl2 hρ xs us.toList (by simpa [namesD] using h) hr⟩
  | .tup xs, u, h, hr => by
    simp only [Rd] at hr ⊢
    obtain ⟨us, hu, hr⟩ := hr
    exact ⟨us, hu, samT_rd hl2 hρ xs us.toList (by simpa [namesD] using h) hr⟩
  | .ifc t d, u, h, hr => by
    simp only [Rd] at hr ⊢
    obtain ⟨x, hu, hr⟩ := hr
    exact ⟨x, hu, sam_rd hl2 hρ d x (by simpa [namesD] using h) hr⟩
  | .fn f k caps, u, h, hr => by
    simp only [Rd] at hr ⊢
    obtain ⟨fs, us, hu, hk, hr⟩ := hr
    exact ⟨fs, us, hu, hk, samT_rd hl2 hρ caps _ (by simpa [namesD] using h) hr⟩
theorem samL_rd (hl2 : H2.length = ks.length) (hρ : ∀ i b, ks[i]? = some (some b) → ρ2 i = ρ b) : ∀ (ds : List D) (us : List Value), (∀ c ∈ namesD.namesA ds, idxOf ks c = some c) → RdL (ctx ρ S w H) ds us → RdL (ctx ρ2 (reS ks ρ H S) w H2) ds us
  | [], us, h, hr => by simpa [RdL] using hr
  | d :: ds, us, h, hr => by
    simp only [RdL] at hr ⊢
    obtain ⟨u, r, hu, ho, hd, hr⟩ := hr
    simp only [namesD.namesA, List.mem_append] at h
    exact ⟨u, r, hu, ho, sam_rd hl2 hρ d u (fun c hc => h c (.inl hc)) hd, samL_rd hl2 hρ ds r (fun c hc => h c (.inr hc)) hr⟩
theorem samT_rd (hl2 : H2.length = ks.length) (hρ : ∀ i b, ks[i]? = some (some b) → ρ2 i = ρ b) : ∀ (ds : List D) (us : List Value), (∀ c ∈ namesD.namesA ds, idxOf ks c = some c) → RdT (ctx ρ S w H) ds us → RdT (ctx ρ2 (reS ks ρ H S) w H2) ds us
  | [], us, h, hr => by simpa [RdT] using hr
  | d :: ds, us, h, hr => by
    simp only [RdT] at hr ⊢
    obtain ⟨u, r, hu, hd, hr⟩ := hr
    simp only [namesD.namesA, List.mem_append] at h
    exact ⟨u, r, hu, sam_rd hl2 hρ d u (fun c hc => h c (.inl hc)) hd, samT_rd hl2 hρ ds r (fun c hc => h c (.inr hc)) hr⟩
end
end
theorem reρK_kO {k : Nat} (hf : firstK keep k = true) : ∀ i b, (kO keep)[i]? = some (some b) → reρK k keep ρ i = ρ b := fun i b h => by
  obtain ⟨e, h1, h2⟩ := kO_id h
  exact reρK_at hf h1 h2
theorem viewOkK_rd {k : Nat} (hS : St ρ S w H) (hf : firstK keep k = true) (hl2 : H2.length = keep.length) {d d2 : D} {u : Value} (hok : viewOkK keep H d d2) (hr : Rd (ctx ρ S w H) d u) : Rd (ctx (reρK k keep ρ) (reS (kO keep) ρ H S) w H2) d2 u := by
  have hl3 : H2.length = (kO keep).length := by rw [hl2]; simp [kO]
  unfold viewOkK at hok
  cases hnil : isNilSl d d2 with
  | false =>
    rw [hnil] at hok
    simp only [cond_false] at hok
    split at hok
    · rename_i e c hv
      obtain ⟨hc, rfl⟩ := hok
      exact viewD_rdK hS hl3 (reρK_kO hf) d e c _ hv hc hr
    · exact hok.elim
  | true =>
    rw [hnil] at hok
    simp only [cond_true] at hok
    unfold isNilSl at hnil
    split at hnil
    · rename_i i es
      simp only [nilOkK] at hok
      split at hok
      · rename_i hk
        simp only [Rd] at hr ⊢
        have hlt : i < H2.length := by rw [hl2]; exact (List.getElem?_eq_some_iff.1 hk).1
        refine ⟨hlt, none, 0, hr, Nat.le_refl _, Nat.zero_le _, ?_, fun h => absurd h (by omega)⟩
        simp [reρK_new hf hk]
      · exact hok.elim
    · cases hnil
theorem viewCells_length : ∀ (ds es : List D), viewCells keep H ds es → es.length = ds.length
  | [], es, h => by simp only [viewCells] at h; simp [h]
  | d :: ds, [], h => by simp [viewCells] at h
  | d :: ds, e :: es, h => by simp only [viewCells] at h; simp [viewCells_length ds es h.2]
theorem viewCells_rd {k : Nat} (hS : St ρ S w H) (hf : firstK keep k = true) (hl2 : H2.length = keep.length) : ∀ (ds es : List D) (us : List Value), viewCells keep H ds es → RdL (ctx ρ S w H) ds us → RdL (ctx (reρK k keep ρ) (reS (kO keep) ρ H S) w H2) es us
  | [], es, us, h, hr => by simp only [viewCells] at h; subst h; simpa [RdL] using hr
  | d :: ds, [], us, h, hr => by simp [viewCells] at h
  | d :: ds, e :: es, us, h, hr => by
    simp only [viewCells] at h
    simp only [RdL] at hr ⊢
    obtain ⟨u, r, hu, ho, hd, hr⟩ := hr
    exact ⟨u, r, hu, ho, viewOkK_rd hS hf hl2 h.1 hd, viewCells_rd hS hf hl2 ds es r h.2 hr⟩
theorem viewK_st {k : Nat} (hS : St ρ S w H) (hf : firstK keep k = true) (hn : nodupB (kO keep) = true) (hh : viewHeapK keep H keep H2) : St (reρK k keep ρ) (reS (kO keep) ρ H S) w H2 := by
  have hl2 := (viewHeapK_get _ _ hh).1
  have hl3 : H2.length = (kO keep).length := by rw [hl2]; simp [kO]
  refine ⟨fun x hx => ?_, fun i blk hi hz => ?_, fun i blk hi hz => ?_, fun i j bi bj hi hj hz hz' he => ?_, hS.glob.mono (fun _ h => .inl h) fun _ _ => rfl⟩
  · rcases hx with hk | ⟨b, blk, h1, h2, h3, h4⟩
    · exact ⟨(hS.sub x hk).1, fun hl => by
        obtain ⟨b, blk, _, h1, h2, h3⟩ := viewK_live hf hh hl
        exact (hS.sub x hk).2 ⟨b, blk, h1, h2, h3⟩⟩
    · refine ⟨hS.lt ⟨b, blk, h1, h3, h4⟩, fun hl => ?_⟩
      obtain ⟨b', blk', hm, h1', h3', h4'⟩ := viewK_live hf hh hl
      have := hS.inj b b' _ _ h1 h1' h3 h3' (h4.trans h4'.symm)
      subst this
      exact h2 hm
  · rcases (viewHeapK_get _ _ hh).2 i blk hi with ⟨e, b, h1, h2, blk0, h3, hb⟩ | ⟨_, h2⟩
    · rw [reρK_at hf h1 h2] at hz
      have h0 := hS.none b blk0 h3 hz
      rcases hb with ⟨rfl, _⟩ | ⟨_, hv⟩ | ⟨rfl, _⟩
      · exact h0
      · rw [h0] at hv; simpa only [viewCells] using hv
      · exact h0
    · exact h2
  · rcases (viewHeapK_get _ _ hh).2 i blk hi with ⟨e, b, h1, h2, blk0, h3, hb⟩ | ⟨h1, _⟩
    · rw [reρK_at hf h1 h2] at hz ⊢
      obtain ⟨cur, hc⟩ := hS.blk b blk0 h3 hz
      rcases hb with ⟨rfl, hnl⟩ | ⟨⟨ht, hfu, hit⟩, hv⟩ | ⟨rfl, hsam⟩
      · refine ⟨cur, hc.heap, hc.size, ?_, hc.full⟩
        exact RdL.nameless (E := ctx ρ S w H) (E' := ctx (reρK k keep ρ) (reS (kO keep) ρ H S) w H2) (fun k hk => .inl hk) (fun _ _ => rfl) _ _ hnl hc.pre
      · refine ⟨cur, .inl ⟨by rw [← ht]; exact hit, by rw [← ht]; exact hc.heap.cells hit⟩, fun h => hc.size (by rw [ht]; exact h), ?_, fun h => by rw [viewCells_length _ _ hv]; exact hc.full (hfu.trans h)⟩
        rw [viewCells_length _ _ hv]
        exact viewCells_rd hS hf hl2 _ _ _ hv hc.pre
      · exact ⟨cur, hc.heap, hc.size, samL_rd hl3 (reρK_kO hf) _ _ hsam hc.pre, hc.full⟩
    · rw [reρK_new hf h1] at hz
      exact absurd hz (by simp)
  · rcases (viewHeapK_get _ _ hh).2 i bi hi with ⟨e, b, h1, h2, blk0, h3, hb⟩ | ⟨h1, _⟩
    · rcases (viewHeapK_get _ _ hh).2 j bj hj with ⟨e', c, h1', h2', blk1, h3', hb'⟩ | ⟨h1', _⟩
      · rw [reρK_at hf h1 h2] at hz he
        rw [reρK_at hf h1' h2'] at hz' he
        have := hS.inj b c _ _ h3 h3' hz hz' he
        subst this
        exact nodup_get (kO keep) i j b hn (by rw [kO_get h1, h2]) (by rw [kO_get h1', h2'])
      · rw [reρK_new hf h1'] at hz'
        exact absurd hz' (by simp)
    · rw [reρK_new hf h1] at hz
      exact absurd hz (by simp)
theorem viewEnvK_get {env : Env} : ∀ (env2 : Env), viewEnvK keep H env env2 → ∀ t d2, env2.lookup t = some d2 → ∃ d, env.lookup t = some d ∧ viewOkK keep H d d2
  | [], _, t, d2, h => by simp at h
  | (s, e) :: r, hv, t, d2, h => by
    simp only [viewEnvK] at hv
    rw [List.lookup_cons] at h
    split at h
    · rename_i ht
      have ht : t = s := by simpa using ht
      injection h with h; subst h; subst ht
      have h1 := hv.1
      split at h1
      · rename_i d hd; exact ⟨d, hd, h1⟩
      · exact h1.elim
    · exact viewEnvK_get r hv.2 t d2 h
theorem viewK_of {k nt : Nat} {env env2 : Env} (h : viewAllK k keep env H env2 H2) : ViewK k nt env H env2 H2 := by
  obtain ⟨hn, hh, he⟩ := h
  simp only [Bool.and_eq_true] at hn
  obtain ⟨hf, hn⟩ := hn
  have hl2 := (viewHeapK_get _ _ hh).1
  refine fun hk => ⟨by rw [hl2]; exact firstK_len hf, fun ρ S w a hi => ?_⟩
  refine ⟨reρK k keep ρ, reS (kO keep) ρ H S, ⟨viewK_st hi.st hf hn hh, fun t d2 ht => ?_, hi.size, hi.defers⟩, viewK_lek hi.st hf hh⟩
  obtain ⟨d, hd, hok⟩ := viewEnvK_get env2 he t d2 ht
  exact viewOkK_rd hi.st hf hl2 hok (hi.env t d hd)
end
def LRuleK (k : Nat) (P : Program) (nt : Nat) (c : Code) (L : LoopO) : Prop := ∀ env H Q, L env H Q → DWK k P nt (.loop c) Q env H
def LpAllK (k : Nat) (P : Program) (nt : Nat) (lp : Nat → Option LoopO) : List Code → Prop
  | [] => True
  | c :: r => (match lp (firstReg c) with
    | some L => LRuleK k P nt c L
    | none => True) ∧ LpAllK k P nt lp r
theorem LpAllK.app {k : Nat} {P : Program} {nt : Nat} {lp : Nat → Option LoopO} : ∀ {l r : List Code}, LpAllK k P nt lp (l ++ r) → LpAllK k P nt lp l ∧ LpAllK k P nt lp r
  | [], r, h => ⟨trivial, h⟩
  | c :: l, r, h => by
    simp only [List.cons_append, LpAllK] at h ⊢
    exact ⟨⟨h.1, h.2.app.1⟩, h.2.app.2⟩
theorem LpAllK.none {k : Nat} {P : Program} {nt : Nat} : ∀ (l : List Code), LpAllK k P nt (fun _ => none) l
  | [] => trivial
  | c :: l => ⟨trivial, LpAllK.none l⟩
section
variable {P : Program} {T : Tbl} (hT : TblOk P T) {k nt N : Nat} {call : CallO} {lp : Nat → Option LoopO}
theorem ViewK.refl {k nt : Nat} (env : Env) (H : Heap) : ViewK k nt env H env H := fun hk => ⟨hk, fun ρ S w a hi => ⟨ρ, S, hi, Ctx.lek.refl _ _⟩⟩
theorem ViewK.has {k nt : Nat} {env env2 : Env} {H : Heap} (h : Has env env2) : ViewK k nt env H env2 H := fun hk => ⟨hk, fun ρ S w a hi => ⟨ρ, S, hi.sub h, Ctx.lek.refl _ _⟩⟩
theorem ViewK.trans {k nt : Nat} {e1 e2 e3 : Env} {H1 H2 H3 : Heap} (v : ViewK k nt e1 H1 e2 H2) (u : ViewK k nt e2 H2 e3 H3) : ViewK k nt e1 H1 e3 H3 := by
  intro hk
  obtain ⟨hk2, v⟩ := v hk
  obtain ⟨hk3, u⟩ := u hk2
  refine ⟨hk3, fun ρ S w a hi => ?_⟩
  obtain ⟨ρ', S', hi', hle⟩ := v ρ S w a hi
  obtain ⟨ρ'', S'', hi'', hle'⟩ := u ρ' S' w a hi'
  exact ⟨ρ'', S'', hi'', hle.trans hle'⟩
theorem xLoop_okK {c : Code} {body : (Exit → Env → Heap → Prop) → Env → Heap → Prop} (hb : ∀ Q env H, body Q env H → DWK k P nt c Q env H) {n : Nat} {Q : Exit → Env → Heap → Prop} {env : Env} {H : Heap} (h : xLoop body n Q (prune [] env) H) : DWK k P nt (.loop c) Q env H := by
  refine DWK.view (ViewK.has (has_prune env)) ?_
  refine DWK.loop (fun x : Nat × Env × Heap => xLoop body x.1 Q x.2.1 x.2.2) (fun x => x.2.1) (fun x => x.2.2) (fun x => x.1) (n, prune [] env, H) h ?_
  rintro ⟨m, en, hp⟩ hx
  simp only at hx ⊢
  cases m with
  | zero => exact hx.elim
  | succ m =>
    refine (hb _ _ _ hx).mono fun e env' H' hh => ?_
    cases e with
    | normal => exact ⟨(m, prune [] env', H'), by simp, hh, ViewK.has (has_prune env')⟩
    | _ => exact hh
include hT
theorem vck_sound (hm : P.follows .mixedOrders = true) (hc : CallOK P call) : ∀ (c : Code) (Q : Exit → Env → Heap → Prop) (env : Env) (H : Heap), codeOk nt c = true → LpAllK k P nt lp (loopsOf c) → vcx P call lp T N c Q env H → DWK k P nt c Q env H
  | .skip, Q, env, H, hok, _, h => (vcg_sound hT hm .skip Q env H hok h).dwk
  | .region id ops draw, Q, env, H, hok, _, h => by
    refine (vcx_sound (lp := fun _ => none) (N := N) hT hm hc (.region id ops draw) Q env H hok (LpAll.none _) h).dwk
  | .seq a b, Q, env, H, hok, hl, h => by
    simp only [codeOk, Bool.and_eq_true] at hok
    obtain ⟨hl1, hl2⟩ := LpAllK.app hl
    intro hk ρ S w ac hi
    simp only [vcx] at h
    have main : ∀ isInt, xJoin (fun Q => vcx P call lp T N a Q env H) (fun env' H' => vcx P call lp T N b Q env' H') isInt (joinVars (setsC a) (readsC b)) (joinEnv (setsC a) (readsC b) env) Q H → Code.wp P (.seq a b) (fun e a' w' => ∃ env' H' ρ' S', Q e env' H' ∧ k ≤ H'.length ∧ Inv nt ρ' S' w' H' env' a' ∧ (ctx ρ S w H).lek k (ctx ρ' S' w' H')) ac w := fun isInt h => by
      obtain ⟨R, h, hR⟩ := xJoin_use h
      refine wp_seq (wp_mono (vck_sound hm hc a _ env H hok.1 hl1 h hk ρ S w ac hi) fun e a' w' ⟨env', H', ρ', S', h1, h2, h3, h4⟩ => ?_)
      cases e with
      | normal =>
        obtain ⟨rfl, env2, hh, hb⟩ := hR _ _ h1
        refine wp_mono (vck_sound hm hc b Q env2 H' hok.2 hl2 hb h2 ρ' S' w' a' (h3.sub hh)) fun e a'' w'' ⟨env'', H'', ρ'', S'', g1, g2, g3, g4⟩ => ?_
        exact ⟨env'', H'', ρ'', S'', g1, g2, g3, h4.trans g4⟩
      | _ => exact ⟨env', H', ρ', S', h1, h2, h3, h4⟩
    split at h
    · split at h
      · refine wp_seq (wp_mono (vck_sound hm hc a _ env H hok.1 hl1 h hk ρ S w ac hi) fun e a' w' ⟨env', H', ρ', S', h1, h2, h3, h4⟩ => ?_)
        cases e with
        | normal =>
          refine wp_mono (vck_sound hm hc b Q env' H' hok.2 hl2 h1 h2 ρ' S' w' a' h3) fun e a'' w'' ⟨env'', H'', ρ'', S'', g1, g2, g3, g4⟩ => ?_
          exact ⟨env'', H'', ρ'', S'', g1, g2, g3, h4.trans g4⟩
        | _ => exact ⟨env', H', ρ', S', h1, h2, h3, h4⟩
      · exact main true h
    · exact main false h
  | .cond c x y, Q, env, H, hok, hl, h => by
    simp only [codeOk, Bool.and_eq_true] at hok
    obtain ⟨hl1, hl2⟩ := LpAllK.app hl
    intro hk ρ S w ac hi
    simp only [vcx] at h
    split at h
    · rename_i b hb
      have hv := get_rd hi.st.glob hi.env c _ hb
      simp only [Rd] at hv
      obtain ⟨h1, h2⟩ := cond_prop h
      cases b with
      | true => exact wp_cond hv (vck_sound hm hc x Q env H hok.1 hl1 (h1 rfl) hk ρ S w ac hi)
      | false => exact wp_cond hv (vck_sound hm hc y Q env H hok.2 hl2 (h2 rfl) hk ρ S w ac hi)
    · exact h.elim
  | .block id c, Q, env, H, hok, hl, h => by
    simp only [codeOk] at hok
    intro hk ρ S w ac hi
    refine wp_block (wp_mono (vck_sound hm hc c _ env H hok hl h hk ρ S w ac hi) fun e a' w' ⟨env', H', ρ', S', h1, h2, h3, h4⟩ => ?_)
    cases e with
    | exit id' =>
      simp only [blockQ] at h1
      simp only [Exit.inBlock]
      split
      · rename_i he; rw [if_pos he] at h1; exact ⟨env', H', ρ', S', h1, h2, h3, h4⟩
      · rename_i he; rw [if_neg he] at h1; exact ⟨env', H', ρ', S', h1, h2, h3, h4⟩
    | _ => exact ⟨env', H', ρ', S', h1, h2, h3, h4⟩
  | .exit id, Q, env, H, hok, _, h => (vcg_sound hT hm (.exit id) Q env H hok h).dwk
  | .ret, Q, env, H, hok, _, h => (vcg_sound hT hm .ret Q env H hok h).dwk
  | .label l, Q, env, H, hok, _, h => (vcg_sound hT hm (.label l) Q env H hok h).dwk
  | .goto l, Q, env, H, hok, _, h => (vcg_sound hT hm (.goto l) Q env H hok h).dwk
  | .refuse _, _, _, _, _, _, h => h.elim
  | .scope c, Q, env, H, hok, hl, h => by
    simp only [codeOk] at hok
    intro hk ρ S w ac hi
    refine wp_scope_straight (wp_mono (vck_sound hm hc c _ env H hok hl h hk ρ S w ac hi) fun e a' w' ⟨env', H', ρ', S', h1, h2, h3, h4⟩ => ?_)
    cases e with
    | goto l => exact h1.elim
    | _ => exact ⟨env', H', ρ', S', h1, h2, h3, h4⟩
  | .rangeFunc .., Q, env, H, _, _, h => h.elim
  | .loop c, Q, env, H, hok, hl, h => by
    simp only [codeOk] at hok
    simp only [loopsOf, LpAllK] at hl
    simp only [vcx] at h
    cases hlp : lp (firstReg c) with
    | some L =>
      simp only [hlp] at h hl
      exact hl.1 env H Q h
    | none =>
      simp only [hlp] at h
      exact xLoop_okK (fun Q env H hh => vck_sound hm hc c Q env H hok hl.2 hh) h
def loopRuleK {α β : Type} (k : Nat) (kp : List KE) (J : α → Prop) (I : α → Env) (HI : α → Heap) (x0 : α) (R : β → Prop) (E : β → Exit × Env × Heap) : LoopO :=
  fun env H Q => J x0 ∧ viewAllK k kp env H (I x0) (HI x0) ∧ ∀ r, R r → Q (E r).1 (E r).2.1 (E r).2.2
def roundQK {α β : Type} (k : Nat) (J : α → Prop) (I : α → Env) (HI : α → Heap) (μ : α → Nat) (R : β → Prop) (E : β → Exit × Env × Heap) (x : α) : Exit → Env → Heap → Prop
  | .normal, env', H' => ∃ (y : α) (kp : List KE), μ y < μ x ∧ J y ∧ viewAllK k kp (selEnv (I y) env') H' (I y) (HI y)
  | e, env', H' => ∃ (r : β) (kp : List KE), R r ∧ e = (E r).1 ∧ viewAllK k kp (selEnv (E r).2.1 env') H' (E r).2.1 (E r).2.2
theorem lruleK_of (hm : P.follows .mixedOrders = true) (hc : CallOK P call) {α β : Type} {kp : List KE} {J : α → Prop} {I : α → Env} {HI : α → Heap} (μ : α → Nat) {x0 : α} {R : β → Prop} {E : β → Exit × Env × Heap} {c : Code}
    (hok : codeOk nt c = true) (hl : LpAllK k P nt lp (loopsOf c)) (round : ∀ x, J x → vcx P call lp T N c (roundQK k J I HI μ R E x) (I x) (HI x)) : LRuleK k P nt c (loopRuleK k kp J I HI x0 R E) := by
  rintro env H Q ⟨h0, hv, hq⟩
  refine DWK.view (viewK_of hv) ?_
  refine DWK.loop J I HI μ x0 h0 fun x hx => DWK.post ((vck_sound hT hm hc c _ _ _ hok hl (round x hx)).mono fun e env' H' h => ?_)
  cases e with
  | normal =>
    obtain ⟨y, k, h1, h2, h3⟩ := h
    exact ⟨env', H', ViewK.refl _ _, y, h1, h2, (ViewK.has (has_sel _)).trans (viewK_of h3)⟩
  | _ =>
    obtain ⟨r, k, h1, h2, h3⟩ := h
    refine ⟨_, _, (ViewK.has (has_sel _)).trans (viewK_of h3), ?_⟩
    have := hq r h1
    rw [← h2] at this
    exact this
def viewFin (k : Nat) (kp : List KE) (H1 : Heap) (d1 d : D) (H' : Heap) : Prop := (firstK kp k && nodupB (kO kp)) = true ∧ viewHeapK kp H1 kp H' ∧ viewOkK kp H1 d1 d
def FinK (k : Nat) (H1 : Heap) (d1 d : D) (H' : Heap) : Prop := ∃ kp : List KE, viewFin k kp H1 d1 d H'
theorem callJ_of_vck (hm : P.follows .mixedOrders = true) (hc : CallOK P call) {f : FuncId} {fn : Func} {c : Code} {ds : List D} {H H' : Heap} {d : D} (hf : P.funcs[f]? = some fn) (hb : fn.body = some c)
    (hname : (fn.name == "runtime.NumGoroutine") = false) (hok : codeOk fn.ntmps c = true) (hlen : decide (ds.length ≤ fn.ntmps) = true) (hk : H.length = k) (hl : LpAllK k P fn.ntmps lp (loopsOf c))
    (h : vcx P call lp T N c (retQ T fn.results.toList fun d1 H1 => FinK k H1 d1 d H') (envOf 0 ds) H) : CallJ P f ds H d H' := by
  subst hk
  have hw : DWK H.length P fn.ntmps c (retQ T fn.results.toList fun d1 H1 => FinK H.length H1 d1 d H') (envOf 0 ds) H := vck_sound hT hm hc c _ _ _ hok hl h
  refine callJ_of_dw (H := H) hT hf hb hname (by simpa using hlen) ?_
  intro ρ S w a hi
  refine wp_mono (hw (Nat.le_refl _) ρ S w a hi) fun e a' w' ⟨env', H1, ρ1, S1, g1, g2, g3, g4⟩ => ?_
  have hle : (ctx ρ S w H).le (ctx ρ1 S1 w' H1) := ⟨g2, g4.ρ, g4.m.S, g4.m.keep, g4.m.new, g4.m.fix, g4.m.heap, g4.m.size, g4.m.os, g4.m.tape, g4.m.output⟩
  refine ⟨env', H1, ρ1, S1, ?_, g3, hle⟩
  have fin : ∀ d1, FinK H.length H1 d1 d H' → Fin ds H d1 H1 d H' := by
    rintro d1 ⟨kp, hn, hh, hv⟩ ρ0 S0 w0 ρ S w u hS0 hle hS hr
    simp only [Bool.and_eq_true] at hn
    obtain ⟨hf, hn⟩ := hn
    have hl2 := (viewHeapK_get _ _ hh).1
    have hlk := viewK_lek hS hf hh
    refine ⟨reρK H.length kp ρ, reS (kO kp) ρ H1 S, viewK_st hS hf hn hh, ?_, viewOkK_rd hS hf hl2 hv hr⟩
    have ht := hle.lem.trans hlk.m
    exact ⟨by show H.length ≤ H'.length; rw [hl2]; exact firstK_len hf, fun b hb => (hlk.ρ b hb).trans (hle.ρ b hb), ht.S, ht.keep, ht.new, ht.fix, ht.heap, ht.size, ht.os, ht.tape, ht.output⟩
  cases e <;> simp only [retQ] at g1 ⊢
  all_goals first
    | exact g1.elim
    | (split at g1
       · exact ⟨g1.1, fin _ g1.2⟩
       · exact g1.elim)
end
def loopRuleK2 {α β γ : Type} (k : Nat) (kp : List KE) (J : α → Prop) (I : α → Env) (HI : α → Heap) (x0 : α) (R : β → Prop) (E : β → Exit × Env × Heap) (R' : γ → Prop) (E' : γ → Exit × Env × Heap) : LoopO :=
  fun env H Q => J x0 ∧ viewAllK k kp env H (I x0) (HI x0) ∧ (∀ r, R r → Q (E r).1 (E r).2.1 (E r).2.2) ∧ ∀ r, R' r → Q (E' r).1 (E' r).2.1 (E' r).2.2
def roundQK2 {α β γ : Type} (k : Nat) (J : α → Prop) (I : α → Env) (HI : α → Heap) (μ : α → Nat) (R : β → Prop) (E : β → Exit × Env × Heap) (R' : γ → Prop) (E' : γ → Exit × Env × Heap) (x : α) : Exit → Env → Heap → Prop
  | .normal, env', H' => ∃ (y : α) (kp : List KE), μ y < μ x ∧ J y ∧ viewAllK k kp (selEnv (I y) env') H' (I y) (HI y)
  | e, env', H' => (∃ (r : β) (kp : List KE), R r ∧ e = (E r).1 ∧ viewAllK k kp (selEnv (E r).2.1 env') H' (E r).2.1 (E r).2.2) ∨ ∃ (r : γ) (kp : List KE), R' r ∧ e = (E' r).1 ∧ viewAllK k kp (selEnv (E' r).2.1 env') H' (E' r).2.1 (E' r).2.2
theorem lruleK2_of {P : Program} {T : Tbl} (hT : TblOk P T) {k nt N : Nat} {call : CallO} {lp : Nat → Option LoopO} (hm : P.follows .mixedOrders = true) (hc : CallOK P call) {α β γ : Type} {kp : List KE} {J : α → Prop} {I : α → Env} {HI : α → Heap} (μ : α → Nat) {x0 : α} {R : β → Prop} {E : β → Exit × Env × Heap} {R' : γ → Prop} {E' : γ → Exit × Env × Heap} {c : Code}
    (hok : codeOk nt c = true) (hl : LpAllK k P nt lp (loopsOf c)) (round : ∀ x, J x → vcx P call lp T N c (roundQK2 k J I HI μ R E R' E' x) (I x) (HI x)) : LRuleK k P nt c (loopRuleK2 k kp J I HI x0 R E R' E') := by
  rintro env H Q ⟨h0, hv, hq, hq'⟩
  refine DWK.view (viewK_of hv) ?_
  refine DWK.loop J I HI μ x0 h0 fun x hx => DWK.post ((vck_sound hT hm hc c _ _ _ hok hl (round x hx)).mono fun e env' H' h => ?_)
  cases e with
  | normal =>
    obtain ⟨y, k, h1, h2, h3⟩ := h
    exact ⟨env', H', ViewK.refl _ _, y, h1, h2, (ViewK.has (has_sel _)).trans (viewK_of h3)⟩
  | _ =>
    rcases h with ⟨r, k, h1, h2, h3⟩ | ⟨r, k, h1, h2, h3⟩
    · refine ⟨_, _, (ViewK.has (has_sel _)).trans (viewK_of h3), ?_⟩
      have := hq r h1
      rw [← h2] at this
      exact this
    · refine ⟨_, _, (ViewK.has (has_sel _)).trans (viewK_of h3), ?_⟩
      have := hq' r h1
      rw [← h2] at this
      exact this
section
variable {ρ ρ' : Nat → Nat × Nat} {S S' : Nat → Prop} {w : World} {H H' : Heap} {g : Nat → Nat}
mutual
theorem Rd.rn (hS : ∀ x, S x → S' x) (hb : ∀ b, b < H.length → g b < H'.length ∧ ρ' (g b) = ρ b) : ∀ (d : D) (u : Value), Rd (ctx ρ S w H) d u → Rd (ctx ρ' S' w H') (rnD g d) u
  | .v x, u, hr => by simp only [rnD, Rd] at hr ⊢; exact hr
  | .ro n xs, u, hr => by simp only [rnD]; exact hr.moveS hS (by simp only [Rd] at hr; simpa [Nameless] using hr.1)
  | .rp xs j, u, hr => by simp only [rnD]; exact hr.moveS hS (by simp only [Rd] at hr; simpa [Nameless] using hr.1)
  | .sl b off n (.exact c es), u, hr => by
    simp only [rnD, Rd] at hr ⊢
    obtain ⟨h1, h2⟩ := hb b hr.1
    rw [h2]; exact ⟨h1, hr.2⟩
  | .sl b off n (.toEnd es), u, hr => by
    simp only [rnD, Rd] at hr ⊢
    obtain ⟨h1, h2⟩ := hb b hr.1
    rw [h2]; exact ⟨h1, hr.2⟩
  | .ptr b off, u, hr => by
    simp only [rnD, Rd] at hr ⊢
    obtain ⟨h1, h2⟩ := hb b hr.1
    rw [h2]; exact ⟨h1, hr.2⟩
  | .agg xs, u, hr => by
    simp only [rnD, Rd] at hr ⊢
    obtain ⟨us, e, hl⟩ := hr
    exact ⟨us, e, RdL.rn hS hb xs _ hl⟩
  | .tup xs, u, hr => by
    simp only [rnD, Rd] at hr ⊢
    obtain ⟨us, e, hl⟩ := hr
    exact ⟨us, e, RdT.rn hS hb xs _ hl⟩
  | .ifc t d, u, hr => by
    simp only [rnD, Rd] at hr ⊢
    obtain ⟨x, e, hx⟩ := hr
    exact ⟨x, e, Rd.rn hS hb d x hx⟩
  | .fn f k caps, u, hr => by
    simp only [rnD, Rd] at hr ⊢
    obtain ⟨fs, us, e, hk, hl⟩ := hr
    exact ⟨fs, us, e, hk, RdT.rn hS hb caps _ hl⟩
theorem RdL.rn (hS : ∀ x, S x → S' x) (hb : ∀ b, b < H.length → g b < H'.length ∧ ρ' (g b) = ρ b) : ∀ (ds : List D) (us : List Value), RdL (ctx ρ S w H) ds us → RdL (ctx ρ' S' w H') (rnL g ds) us
  | [], us, hr => by simp only [rnL, RdL] at hr ⊢; exact hr
  | d :: ds, us, hr => by
    simp only [rnL, RdL] at hr ⊢
    obtain ⟨u, r, e, ho, hd, hr⟩ := hr
    exact ⟨u, r, e, ho, Rd.rn hS hb d u hd, RdL.rn hS hb ds r hr⟩
theorem RdT.rn (hS : ∀ x, S x → S' x) (hb : ∀ b, b < H.length → g b < H'.length ∧ ρ' (g b) = ρ b) : ∀ (ds : List D) (us : List Value), RdT (ctx ρ S w H) ds us → RdT (ctx ρ' S' w H') (rnL g ds) us
  | [], us, hr => by simp only [rnL, RdT] at hr ⊢; exact hr
  | d :: ds, us, hr => by
    simp only [rnL, RdT] at hr ⊢
    obtain ⟨u, r, e, hd, hr⟩ := hr
    exact ⟨u, r, e, Rd.rn hS hb d u hd, RdT.rn hS hb ds r hr⟩
end
mutual
theorem Rd.unrn (hb : ∀ b, b < H.length → ρ' (g b) = ρ b) : ∀ (d : D) (u : Value), (∀ b ∈ namesD d, b < H.length) → Rd (ctx ρ' S w H') (rnD g d) u → Rd (ctx ρ S w H) d u
  | .v x, u, hn, hr => by simp only [rnD, Rd] at hr ⊢; exact hr
  | .ro n xs, u, hn, hr => by simp only [rnD] at hr; exact hr.moveS (fun _ h => h) (by simp only [Rd] at hr; simpa [Nameless] using hr.1)
  | .rp xs j, u, hn, hr => by simp only [rnD] at hr; exact hr.moveS (fun _ h => h) (by simp only [Rd] at hr; simpa [Nameless] using hr.1)
  | .sl b off n (.exact c es), u, hn, hr => by
    have h1 := hn b (by simp [namesD])
    simp only [rnD, Rd] at hr ⊢
    rw [← hb b h1]; exact ⟨h1, hr.2⟩
  | .sl b off n (.toEnd es), u, hn, hr => by
    have h1 := hn b (by simp [namesD])
    simp only [rnD, Rd] at hr ⊢
    rw [← hb b h1]; exact ⟨h1, hr.2⟩
  | .ptr b off, u, hn, hr => by
    have h1 := hn b (by simp [namesD])
    simp only [rnD, Rd] at hr ⊢
    rw [← hb b h1]; exact ⟨h1, hr.2⟩
  | .agg xs, u, hn, hr => by
    simp only [rnD, Rd] at hr ⊢
    obtain ⟨us, e, hl⟩ := hr
    exact ⟨us, e, RdL.unrn hb xs _ (by simpa [namesD] using hn) hl⟩
  | .tup xs, u, hn, hr => by
    simp only [rnD, Rd] at hr ⊢
    obtain ⟨us, e, hl⟩ := hr
    exact ⟨us, e, RdT.unrn hb xs _ (by simpa [namesD] using hn) hl⟩
  | .ifc t d, u, hn, hr => by
    simp only [rnD, Rd] at hr ⊢
    obtain ⟨x, e, hx⟩ := hr
    exact ⟨x, e, Rd.unrn hb d x (by simpa [namesD] using hn) hx⟩
  | .fn f k caps, u, hn, hr => by
    simp only [rnD, Rd] at hr ⊢
    obtain ⟨fs, us, e, hk, hl⟩ := hr
    exact ⟨fs, us, e, hk, RdT.unrn hb caps _ (by simpa [namesD] using hn) hl⟩
theorem RdL.unrn (hb : ∀ b, b < H.length → ρ' (g b) = ρ b) : ∀ (ds : List D) (us : List Value), (∀ b ∈ namesD.namesA ds, b < H.length) → RdL (ctx ρ' S w H') (rnL g ds) us → RdL (ctx ρ S w H) ds us
  | [], us, hn, hr => by simp only [rnL, RdL] at hr ⊢; exact hr
  | d :: ds, us, hn, hr => by
    simp only [rnL, RdL] at hr ⊢
    simp only [namesD.namesA, List.mem_append] at hn
    obtain ⟨u, r, e, ho, hd, hr⟩ := hr
    exact ⟨u, r, e, ho, Rd.unrn hb d u (fun b h => hn b (.inl h)) hd, RdL.unrn hb ds r (fun b h => hn b (.inr h)) hr⟩
theorem RdT.unrn (hb : ∀ b, b < H.length → ρ' (g b) = ρ b) : ∀ (ds : List D) (us : List Value), (∀ b ∈ namesD.namesA ds, b < H.length) → RdT (ctx ρ' S w H') (rnL g ds) us → RdT (ctx ρ S w H) ds us
  | [], us, hn, hr => by simp only [rnL, RdT] at hr ⊢; exact hr
  | d :: ds, us, hn, hr => by
    simp only [rnL, RdT] at hr ⊢
    simp only [namesD.namesA, List.mem_append] at hn
    obtain ⟨u, r, e, hd, hr⟩ := hr
    exact ⟨u, r, e, Rd.unrn hb d u (fun b h => hn b (.inl h)) hd, RdT.unrn hb ds r (fun b h => hn b (.inr h)) hr⟩
end
end
def gOf (σ : List Nat) (m b : Nat) : Nat := if b < σ.length then σ.getD b 0 else m + (b - σ.length)
def setAt (B : Heap) : List Nat → Heap → Heap
  | b :: σ, x :: xs => setAt (B.set b x) σ xs
  | _, _ => B
def frH (σ : List Nat) (B H' : Heap) : Heap := setAt B σ (H'.map (Option.map (rnB (gOf σ B.length)))) ++ (H'.drop σ.length).map (Option.map (rnB (gOf σ B.length)))
theorem setAt_length : ∀ (σ : List Nat) (B xs : Heap), (setAt B σ xs).length = B.length
  | [], B, xs => by simp [setAt]
  | b :: σ, B, [] => by simp [setAt]
  | b :: σ, B, x :: xs => by simp [setAt, setAt_length σ]
theorem setAt_other : ∀ (σ : List Nat) (B xs : Heap) (b : Nat), b ∉ σ → (setAt B σ xs)[b]? = B[b]?
  | [], B, xs, b, h => by simp [setAt]
  | c :: σ, B, [], b, h => by simp [setAt]
  | c :: σ, B, x :: xs, b, h => by
    simp only [List.mem_cons, not_or] at h
    simp only [setAt]
    rw [setAt_other σ _ xs b h.2, List.getElem?_set_ne (fun e => h.1 e.symm)]
theorem setAt_at : ∀ (σ : List Nat) (B xs : Heap) (i b : Nat), σ.Nodup → σ[i]? = some b → b < B.length → i < xs.length → (setAt B σ xs)[b]? = xs[i]?
  | [], B, xs, i, b, _, h, _, _ => by simp at h
  | c :: σ, B, [], i, b, _, h, _, h2 => by simp at h2
  | c :: σ, B, x :: xs, i, b, hn, h, hb, h2 => by
    simp only [List.nodup_cons] at hn
    simp only [setAt]
    cases i with
    | zero =>
      simp at h; subst h
      rw [setAt_other σ _ xs c hn.1, List.getElem?_set_self hb]; rfl
    | succ i =>
      simp only [List.getElem?_cons_succ] at h ⊢
      exact setAt_at σ _ xs i b hn.2 h (by simpa using hb) (by simpa using h2)
theorem CallJ.frames {P : Program} {f : FuncId} {ds : List D} {H H' : Heap} {d : D} (h : CallJ P f ds H d H') {σ : List Nat} {B : Heap} (hσ : σ.length = H.length) (hnd : σ.Nodup) (hlt : ∀ b ∈ σ, b < B.length)
    (hB : ∀ (i : Nat) (blk : Blk), H[i]? = some (some blk) → ∃ b : Nat, σ[i]? = some b ∧ B[b]? = some (some (rnB (gOf σ B.length) blk)) ∧ ∀ b ∈ namesD.namesA blk.cs, b < H.length) (hnds : ∀ b ∈ namesD.namesA ds, b < H.length) :
    CallJ P f (rnL (gOf σ B.length) ds) B (rnD (gOf σ B.length) d) (frH σ B H') := by
  refine ⟨h.1, fun ρ S w vals hS hv => ?_⟩
  have hg1 : ∀ (i b : Nat), σ[i]? = some b → gOf σ B.length i = b := fun i b hi => by
    have hl := (List.getElem?_eq_some_iff.1 hi).1
    unfold gOf
    rw [if_pos hl, List.getD_eq_getElem?_getD, hi]; rfl
  have hg2 : ∀ i, ¬ i < σ.length → gOf σ B.length i = B.length + (i - σ.length) := fun i hi => if_neg hi
  have hσi : ∀ i, i < σ.length → ∃ b : Nat, σ[i]? = some b ∧ b < B.length := fun i hi => ⟨σ[i], List.getElem?_eq_getElem hi, hlt _ (List.getElem_mem hi)⟩
  have up : ∀ x, Live (fun i => ρ (gOf σ B.length i)) H x → ∃ (i b : Nat) (blk : Blk), σ[i]? = some b ∧ H[i]? = some (some blk) ∧ B[b]? = some (some (rnB (gOf σ B.length) blk)) ∧ 0 < (ρ b).2 ∧ (ρ b).1 = x := by
    rintro x ⟨i, blk, hi, hz, e⟩
    obtain ⟨b, h1, h2, _⟩ := hB i blk hi
    simp only [hg1 i b h1] at hz e
    exact ⟨i, b, blk, h1, hi, h2, hz, e⟩
  have upL : ∀ x, Live (fun i => ρ (gOf σ B.length i)) H x → Live ρ B x := fun x hx => by
    obtain ⟨i, b, blk, _, _, h2, hz, e⟩ := up x hx
    exact ⟨b, _, h2, hz, e⟩
  have hSs : St (fun i => ρ (gOf σ B.length i)) S w H := by
    refine ⟨fun x hx => ⟨(hS.sub x hx).1, fun hl => (hS.sub x hx).2 (upL x hl)⟩, fun i blk hi hz => ?_, fun i blk hi hz => ?_, fun i j bi bj hi hj hz hz' e => ?_, hS.glob⟩
    · obtain ⟨b, h1, h2, _⟩ := hB i blk hi
      simp only [hg1 i b h1] at hz
      have := hS.none b _ h2 hz
      exact List.eq_nil_of_length_eq_zero (by rw [← rnL_length (gOf σ B.length)]; exact congrArg List.length this)
    · obtain ⟨b, h1, h2, h3⟩ := hB i blk hi
      simp only [hg1 i b h1] at hz ⊢
      obtain ⟨cur, hc⟩ := hS.blk b _ h2 hz
      refine ⟨cur, hc.heap.unrn, hc.size, ?_, fun hf => by rw [← hc.full hf]; exact (rnL_length _ _).symm⟩
      have hp := hc.pre
      simp only [rnB, rnL_length] at hp
      exact RdL.unrn (ρ := fun i => ρ (gOf σ B.length i)) (ρ' := ρ) (fun _ _ => rfl) blk.cs _ h3 hp
    · obtain ⟨b, h1, h2, _⟩ := hB i bi hi
      obtain ⟨c, g1, g2, _⟩ := hB j bj hj
      simp only [hg1 i b h1] at hz e
      simp only [hg1 j c g1] at hz' e
      have := hS.inj b c _ _ h2 g2 hz hz' e
      subst this
      exact (List.getElem?_inj (List.getElem?_eq_some_iff.1 h1).1 hnd).1 (h1.trans g1.symm)
  refine (h.2 _ S w vals hSs (RdT.unrn (ρ := fun i => ρ (gOf σ B.length i)) (ρ' := ρ) (fun _ _ => rfl) ds vals hnds hv)).mono fun e w' ⟨v, ρ', S', he, hS', hle, hr⟩ => ?_
  have hN : σ.length ≤ H'.length := by rw [hσ]; exact hle.N
  let ρ2 : Nat → Nat × Nat := fun b => if b < B.length then ρ b else ρ' (σ.length + (b - B.length))
  have r1 : ∀ b, b < B.length → ρ2 b = ρ b := fun b hb => if_pos hb
  have rg : ∀ i, ρ2 (gOf σ B.length i) = ρ' i := fun i => by
    by_cases hi : i < σ.length
    · obtain ⟨b, h1, h2⟩ := hσi i hi
      have e1 : ρ' i = ρ (gOf σ B.length i) := hle.ρ i (by show i < H.length; rw [← hσ]; exact hi)
      rw [hg1 i b h1, r1 b h2, e1, hg1 i b h1]
    · rw [hg2 i hi]
      show (if _ then _ else _) = _
      rw [if_neg (by omega)]
      congr 1
      omega
  have hlen : (frH σ B H').length = B.length + (H'.length - σ.length) := by simp [frH, setAt_length]
  have gl : ∀ i, i < H'.length → gOf σ B.length i < (frH σ B H').length := fun i hi => by
    rw [hlen]
    by_cases h1 : i < σ.length
    · obtain ⟨b, h2, h3⟩ := hσi i h1
      rw [hg1 i b h2]; omega
    · rw [hg2 i h1]; omega
  have get2 : ∀ (b : Nat) (bl : Blk), (frH σ B H')[b]? = some (some bl) → (∃ (i : Nat) (bl0 : Blk), b = gOf σ B.length i ∧ H'[i]? = some (some bl0) ∧ bl = rnB (gOf σ B.length) bl0) ∨ (b < B.length ∧ b ∉ σ ∧ B[b]? = some (some bl)) := by
    intro b bl hb
    unfold frH at hb
    by_cases hbl : b < B.length
    · rw [List.getElem?_append_left (by rw [setAt_length]; exact hbl)] at hb
      by_cases hm : b ∈ σ
      · obtain ⟨i, hi⟩ := List.getElem?_of_mem hm
        have hil := (List.getElem?_eq_some_iff.1 hi).1
        rw [setAt_at σ B _ i b hnd hi hbl (by simp; omega)] at hb
        simp only [List.getElem?_map, Option.map_eq_some_iff] at hb
        obtain ⟨o, h1, h2⟩ := hb
        obtain ⟨bl0, rfl, rfl⟩ := h2
        exact .inl ⟨i, bl0, (hg1 i b hi).symm, h1, rfl⟩
      · rw [setAt_other σ B _ b hm] at hb
        exact .inr ⟨hbl, hm, hb⟩
    · rw [List.getElem?_append_right (by rw [setAt_length]; omega), setAt_length] at hb
      simp only [List.getElem?_map, Option.map_eq_some_iff, List.getElem?_drop] at hb
      obtain ⟨o, h1, h2⟩ := hb
      obtain ⟨bl0, rfl, rfl⟩ := h2
      refine .inl ⟨σ.length + (b - B.length), bl0, ?_, h1, rfl⟩
      rw [hg2 _ (by omega)]; omega
  have other : ∀ (b : Nat) (bl : Blk), b < B.length → b ∉ σ → B[b]? = some (some bl) → 0 < (ρ b).2 → ¬ Live (fun i => ρ (gOf σ B.length i)) H (ρ b).1 := fun b bl hb hm hbl hz hl => by
    obtain ⟨i, c, blk, h1, _, h2, hz2, e2⟩ := up _ hl
    have := hS.inj b c _ _ hbl h2 hz hz2 e2.symm
    subst this
    exact hm (List.mem_of_getElem? h1)
  have live2 : ∀ x, Live ρ2 (frH σ B H') x → Live ρ' H' x ∨ ∃ (b : Nat) (bl : Blk), b < B.length ∧ b ∉ σ ∧ B[b]? = some (some bl) ∧ 0 < (ρ b).2 ∧ (ρ b).1 = x := by
    rintro x ⟨b, bl, hb, hz, e⟩
    rcases get2 b bl hb with ⟨i, bl0, rfl, h1, rfl⟩ | ⟨h1, h2, h3⟩
    · rw [rg] at hz e; exact .inl ⟨i, bl0, h1, hz, e⟩
    · rw [r1 b h1] at hz e; exact .inr ⟨b, bl, h1, h2, h3, hz, e⟩
  have fixS : ∀ x, Fix (ctx ρ S w B) x → Fix (ctx (fun i => ρ (gOf σ B.length i)) S w H) x := fun x hx => ⟨hx.1, fun hl => hx.2 (upL x hl)⟩
  have hle2 : (ctx ρ S w B).le (ctx ρ2 S' w' (frH σ B H')) := by
    refine ⟨by show B.length ≤ (frH σ B H').length; rw [hlen]; omega, fun b hb => r1 b hb, hle.S, hle.keep, fun x hx => ?_, fun x hx => ⟨Nat.lt_of_lt_of_le hx.1 hle.size, fun hl => ?_⟩, fun x hx => hle.heap x (fixS x hx), hle.size, hle.os, hle.tape, hle.output⟩
    · rcases hle.new x hx with h | h | h
      · exact .inl h
      · exact .inr (.inl (upL x h))
      · exact .inr (.inr h)
    · rcases live2 x hl with h | ⟨b, bl, _, _, hb, hz, e⟩
      · exact (hle.fix x (fixS x hx)).2 h
      · exact hx.2 ⟨b, bl, hb, hz, e⟩
  have cross : ∀ (i : Nat) (bi : Blk) (b : Nat) (bl : Blk), H'[i]? = some (some bi) → 0 < (ρ' i).2 → b < B.length → b ∉ σ → B[b]? = some (some bl) → 0 < (ρ b).2 → (ρ' i).1 ≠ (ρ b).1 := fun i bi b bl hi hz hb hm hbl hz' e => by
    have h1 : Live ρ' H' (ρ b).1 := ⟨i, bi, hi, hz, e⟩
    exact (hle.fix (ρ b).1 ⟨hS.lt ⟨b, bl, hbl, hz', rfl⟩, other b bl hb hm hbl hz'⟩).2 h1
  refine ⟨v, ρ2, S', he, ⟨fun x hx => ⟨(hS'.sub x hx).1, fun hl => ?_⟩, fun b bl hb hz => ?_, fun b bl hb hz => ?_, fun b c bl bl' hb hc hz hz' e => ?_, hS'.glob⟩, hle2, Rd.rn (fun _ h => h) (fun i hi => ⟨gl i hi, rg i⟩) d v hr⟩
  · rcases live2 x hl with h | ⟨b, bl, hb, hm, hbl, hz, e⟩
    · exact (hS'.sub x hx).2 h
    · rcases hle.new x hx with h | h | h
      · exact (hS.sub x h).2 ⟨b, bl, hbl, hz, e⟩
      · subst e; exact other b bl hb hm hbl hz h
      · have := hS.lt ⟨b, bl, hbl, hz, e⟩; simp only [ctx] at *; omega
  · rcases get2 b bl hb with ⟨i, bl0, rfl, h1, rfl⟩ | ⟨h1, h2, h3⟩
    · rw [rg] at hz
      have := hS'.none i bl0 h1 hz
      simp only [rnB, this, rnL]
    · rw [r1 b h1] at hz; exact hS.none b bl h3 hz
  · rcases get2 b bl hb with ⟨i, bl0, rfl, h1, rfl⟩ | ⟨h1, h2, h3⟩
    · rw [rg] at hz ⊢
      obtain ⟨cur, hc⟩ := hS'.blk i bl0 h1 hz
      refine ⟨cur, hc.heap.rn, hc.size, ?_, fun hf => by rw [← hc.full hf]; exact rnL_length _ _⟩
      simp only [rnB, rnL_length]
      exact RdL.rn (fun _ h => h) (fun i hi => ⟨gl i hi, rg i⟩) _ _ hc.pre
    · rw [r1 b h1] at hz ⊢
      obtain ⟨cur, hc⟩ := hS.blk b bl h3 hz
      exact ⟨cur, hc.heap.of (hle.heap _ ⟨hc.lt, other b bl h1 h2 h3 hz⟩), hc.size, hc.pre.mono hle2 _ _, hc.full⟩
  · rcases get2 b bl hb with ⟨i, bi, rfl, h1, rfl⟩ | ⟨h1, h2, h3⟩
    · rcases get2 c bl' hc with ⟨j, bj, rfl, g1, rfl⟩ | ⟨g1, g2, g3⟩
      · rw [rg] at hz hz'; rw [rg, rg] at e
        rw [hS'.inj i j bi bj h1 g1 hz hz' e]
      · rw [rg] at hz; rw [r1 c g1] at hz'; rw [rg, r1 c g1] at e
        exact absurd e (cross i bi c bl' h1 hz g1 g2 g3 hz')
    · rcases get2 c bl' hc with ⟨j, bj, rfl, g1, rfl⟩ | ⟨g1, g2, g3⟩
      · rw [r1 b h1] at hz; rw [rg] at hz'; rw [r1 b h1, rg] at e
        exact absurd e.symm (cross j bj b bl g1 hz' h1 h2 h3 hz)
      · rw [r1 b h1] at hz; rw [r1 c g1] at hz'; rw [r1 b h1, r1 c g1] at e
        exact hS.inj b c bl bl' h3 g3 hz hz' e
end Go.VD
end
