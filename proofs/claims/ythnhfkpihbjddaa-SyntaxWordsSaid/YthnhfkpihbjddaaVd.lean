/- Soundness of the operations that touch none of the call's own blocks. -/
import Derived.Test.YthnhfkpihbjddaaVc
namespace Go.VD
set_option linter.unusedVariables false
set_option linter.unusedSimpArgs false

/-- the value v comes of s, the world stays -/
def Runs (P : Program) (s : Sem Value) (w : World) (v : Value) : Prop := s.run P w = .ok v w

section
variable {P : Program} {T : Tbl} (hT : TblOk P T) {E : Ctx}

theorem RdL.ofExtract {ds : List D} {us : Array Value} (h : RdL E ds us.toList) (off n : Nat) : RdL E ((ds.drop off).take n) (us.extract off (off + n)).toList := by
  have : (us.extract off (off + n)).toList = (us.toList.drop off).take n := by
    simp [Array.toList_extract, List.extract_eq_take_drop]
  rw [this]
  exact (h.drop off).take n

theorem part_sound {t : TypeId} {ti : TI} (ht : TiOk P t ti) {xs : List D} {us : Array Value} (h : RdL E xs us.toList) {off : Nat} (hc : (partD ti xs off).2) (w : World) :
    ∃ v, (part t us off).run P w = .ok v w ∧ Rd E (partD ti xs off).1 v := by
  simp only [part, Sem.run_bind, ht.run_isAgg, Result.andThen_ok]
  cases hagg : ti.td.isAgg with
  | true =>
    rw [partD_agg hagg] at hc ⊢
    simp only [if_true, Sem.run_bind, ht.run_size, Result.andThen_ok, Sem.run_pure]
    refine ⟨_, rfl, ?_⟩
    simp only [Rd]
    exact ⟨_, rfl, h.ofExtract off ti.size⟩
  | false =>
    obtain ⟨hc, he⟩ := partD_one hagg hc
    rw [he]
    simp only [Bool.false_eq_true, if_false]
    have hl := h.length
    obtain ⟨u, hu, ho, hd⟩ := h.get xs us.toList off xs[off] (List.getElem?_eq_getElem hc)
    have hu' : us[off]? = some u := by simpa using hu
    simp only [hu']
    refine ⟨u, rfl, ?_⟩
    rw [List.getD_eq_getElem?_getD, List.getElem?_eq_getElem hc]
    exact hd

theorem RdAt.part {xs : List D} {ad : Addr} (h : RdAt E xs ad 0) {t : TypeId} {ti : TI} (ht : TiOk P t ti) {j : Nat} (hc : (partD ti xs j).2) :
    ∃ v, (loadVar t (ad.add j)).run P E.w = .ok v E.w ∧ Rd E (partD ti xs j).1 v := by
  simp only [loadVar, Sem.run_bind, ht.run_isAgg, Result.andThen_ok]
  cases hagg : ti.td.isAgg with
  | true =>
    rw [partD_agg hagg] at hc ⊢
    simp only [if_true, Sem.run_bind, ht.run_size, Result.andThen_ok]
    obtain ⟨us, h1, h2⟩ := RdAt.list _ _ _ ((h.drop j).take ti.size)
    have hl := h1.length
    have hl' : us.length = ti.size := by rw [hl]; simp at hc ⊢; omega
    have := run_loadCells_list (P := P) (w := E.w) (ad.add j) us (fun i v hv => by have := h2 i v hv; simpa using this)
    rw [hl'] at this
    simp only [this, Result.andThen_ok, Sem.run_pure]
    refine ⟨_, rfl, ?_⟩
    simp only [Rd]
    exact ⟨_, rfl, by simpa using h1⟩
  | false =>
    obtain ⟨hc, he⟩ := partD_one hagg hc
    rw [he]
    simp only [Bool.false_eq_true, if_false]
    obtain ⟨u, hu, ho, hd⟩ := RdAt.get _ _ _ h j xs[j] (List.getElem?_eq_getElem hc)
    rw [Nat.zero_add] at hu
    refine ⟨u, by simp [hu], ?_⟩
    rw [List.getD_eq_getElem?_getD, List.getElem?_eq_getElem hc]
    exact hd

include hT
theorem fieldOf_spec {s : TypeId} {f off : Nat} {ti : TI} (h : fieldOf T s f = some (off, ti)) :
    ∃ F fd, P.underlying s = some (.struct F) ∧ F[f]? = some fd ∧ fd.offset = off ∧ TiOk P fd.type ti := by
  unfold fieldOf at h
  split at h
  · rename_i fs a b c hs
    split at h
    · rename_i o ft hf
      split at h
      · rename_i ti' hft
        injection h with h; injection h with h1 h2
        subst h1; subst h2
        obtain ⟨F, hF, hm⟩ := (hT.ok s _ hs).struct rfl
        rw [← hm] at hf
        simp only [List.getElem?_map, Array.getElem?_toList] at hf
        cases hF' : F[f]? with
        | none => simp [hF'] at hf
        | some fd =>
          simp [hF'] at hf
          exact ⟨F, fd, hF, hF', hf.1, hf.2 ▸ hT.ok ft _ hft⟩
      · cases h
    · cases h
  · cases h

theorem fieldAddr_sound {s : TypeId} {f : Nat} {dx : Option D} {d : D} {c : Prop} (h : fieldAddrD (fieldOf T s f) dx = some (d, c)) (hc : c) {x : Value} (hx : ∀ d', dx = some d' → Rd E d' x) (w : World) :
    ∃ v, (Instr.fieldAt s x f).run P w = .ok v w ∧ Rd E d v := by
  have main : ∀ (off : Nat) (ti : TI) (a : Addr), fieldOf T s f = some (off, ti) → ti.size ≠ 0 → (Instr.fieldAt s (.pointer (some a)) f).run P w = .ok (.pointer (some (a.add off))) w := by
    intro off ti a hF hsz
    obtain ⟨F, fd, h1, h2, h3, h4⟩ := fieldOf_spec hT hF
    simp [Instr.fieldAt, run_underlying h1, h2, Instr.sureAddr, fieldPlace, h4.run_size, hsz, h3]
  unfold fieldAddrD at h
  split at h
  · rename_i b o
    split at h
    · rename_i off ti hF
      split at h
      · cases h
      · rename_i hsz
        obtain ⟨rfl, rfl⟩ := pair_inj h
        have hr := hx _ rfl
        simp only [Rd] at hr
        obtain ⟨hb, rfl⟩ := hr
        refine ⟨_, main off ti _ hF hsz, ?_⟩
        simp only [Rd]
        refine ⟨hb, ?_⟩
        unfold Addr.add; split
        · rename_i h0; subst h0; rfl
        · rfl
    · cases h
  · rename_i xs j
    split at h
    · rename_i off ti hF
      split at h
      · cases h
      · rename_i hsz
        obtain ⟨rfl, rfl⟩ := pair_inj h
        have hr := hx _ rfl
        simp only [Rd] at hr
        obtain ⟨hnl, ad, rfl, hs, ha⟩ := hr
        refine ⟨_, main off ti _ hF hsz, ?_⟩
        simp only [Rd]
        exact ⟨hnl, ad, by rw [add_add], hs, ha⟩
    · cases h
  · cases h

theorem field_sound {s : TypeId} {f : Nat} {dx : Option D} {d : D} {c : Prop} (h : fieldD (fieldOf T s f) dx = some (d, c)) (hc : c) {x : Value} (hx : ∀ d', dx = some d' → Rd E d' x) (w : World) :
    ∃ v, (Instr.field s x f).run P w = .ok v w ∧ Rd E d v := by
  unfold fieldD at h
  split at h
  · rename_i xs
    split at h
    · rename_i off ti hF
      injection h with h
      have hr := hx _ rfl
      simp only [Rd] at hr
      obtain ⟨us, rfl, hl⟩ := hr
      obtain ⟨F, fd, h1, h2, h3, h4⟩ := fieldOf_spec hT hF
      have hc' : (partD ti xs off).2 := by rw [h]; exact hc
      obtain ⟨v, hv, hd⟩ := part_sound h4 hl hc' w
      rw [h] at hd
      refine ⟨v, ?_, hd⟩
      simp [Instr.field, run_underlying h1, h2, asAgg, h3, hv]
    · cases h
  · cases h

theorem indexAddr_sound {t : TypeId} {dx di : Option D} {d : D} {c : Prop} (h : indexAddrD T (T t) dx di = some (d, c)) (hc : c) {x i : Value} (hx : ∀ d', dx = some d' → Rd E d' x) (hi : ∀ d', di = some d' → Rd E d' i) (w : World) :
    ∃ v, (Instr.indexAt t x i).run P w = .ok v w ∧ Rd E d v := by
  unfold indexAddrD at h
  split at h
  · rename_i n xs k z
    split at h
    · rename_i e _ _ _ ht
      split at h
      · rename_i ti hte
        obtain ⟨rfl, rfl⟩ := pair_inj h
        have hr := hx _ rfl
        have hiv := hi _ rfl
        simp only [Rd] at hr hiv
        subst hiv
        obtain ⟨hnl, A, cp, rfl, h1, h2, h3⟩ := hr
        obtain ⟨ad, rfl, hs, ha⟩ := h3 (by omega)
        refine ⟨.pointer (some (ad.add (z.toNat * ti.size))), ?_, ?_⟩
        · simp [Instr.indexAt, run_underlying ((hT.ok t _ ht).slice rfl), asIntOf, hc, (hT.ok e _ hte).run_size]
        · simp only [Rd]; exact ⟨hnl, ad, rfl, hs, ha⟩
      · cases h
    · cases h
  · rename_i b off n cp k z
    split at h
    · rename_i e _ _ _ ht
      split at h
      · rename_i ti hte
        obtain ⟨rfl, rfl⟩ := pair_inj h
        have hr := hx _ rfl
        have hiv := hi _ rfl
        simp only [Rd] at hiv
        subst hiv
        have : b < E.H.length ∧ ∃ A c, x = .slice A n c ∧ n ≤ c ∧ (0 < c → A = some ⟨(E.ρ b).1, off, none⟩) := by
          cases cp with
          | exact c _ => simp only [Rd] at hr; obtain ⟨h1, h2, h3, A, h4, h5⟩ := hr; exact ⟨h1, A, c, h4, h2, h5⟩
          | toEnd es => simp only [Rd] at hr; obtain ⟨h1, A, c, h4, h2, h3, _, h5⟩ := hr; exact ⟨h1, A, c, h4, h2, h5⟩
        obtain ⟨hb, A, c, rfl, hnc, hA⟩ := this
        have hA := hA (by omega)
        subst hA
        refine ⟨.pointer (some ((⟨(E.ρ b).1, off, none⟩ : Addr).add (z.toNat * ti.size))), ?_, ?_⟩
        · simp [Instr.indexAt, run_underlying ((hT.ok t _ ht).slice rfl), asIntOf, hc, (hT.ok e _ hte).run_size]
        · simp only [Rd]
          refine ⟨hb, ?_⟩
          unfold Addr.add; split
          · rename_i h0; rw [h0]; rfl
          · rfl
      · cases h
    · cases h
  · rename_i b off k z
    split at h
    · rename_i m e _ _ _ ht
      split at h
      · rename_i ti hte
        obtain ⟨rfl, rfl⟩ := pair_inj h
        have hr := hx _ rfl
        have hiv := hi _ rfl
        simp only [Rd] at hiv hr
        subst hiv
        obtain ⟨hb, rfl⟩ := hr
        refine ⟨.pointer (some ((⟨(E.ρ b).1, off, none⟩ : Addr).add (z.toNat * ti.size))), ?_, ?_⟩
        · simp [Instr.indexAt, run_underlying ((hT.ok t _ ht).arr rfl), asIntOf, hc, (hT.ok e _ hte).run_size, Instr.sureAddr]
        · simp only [Rd]
          refine ⟨hb, ?_⟩
          unfold Addr.add; split
          · rename_i h0; rw [h0]; rfl
          · rfl
      · cases h
    · cases h
  · rename_i xs j k z
    split at h
    · rename_i m e _ _ _ ht
      split at h
      · rename_i ti hte
        obtain ⟨rfl, rfl⟩ := pair_inj h
        have hr := hx _ rfl
        have hiv := hi _ rfl
        simp only [Rd] at hiv hr
        subst hiv
        obtain ⟨hnl, ad, rfl, hs, ha⟩ := hr
        refine ⟨.pointer (some ((ad.add j).add (z.toNat * ti.size))), ?_, ?_⟩
        · simp [Instr.indexAt, run_underlying ((hT.ok t _ ht).arr rfl), asIntOf, hc, (hT.ok e _ hte).run_size, Instr.sureAddr]
        · simp only [Rd]
          exact ⟨hnl, ad, by rw [add_add], hs, ha⟩
      · cases h
    · cases h
  · cases h

theorem index_sound {t : TypeId} {dx di : Option D} {d : D} {c : Prop} (h : indexD T (T t) dx di = some (d, c)) (hc : c) {x i : Value} (hx : ∀ d', dx = some d' → Rd E d' x) (hi : ∀ d', di = some d' → Rd E d' i) (w : World) :
    ∃ v, (Instr.index t x i).run P w = .ok v w ∧ Rd E d v := by
  unfold indexD at h
  split at h
  · rename_i s k z
    split at h
    · rename_i ht
      obtain ⟨rfl, rfl⟩ := pair_inj h
      have hr := hx _ rfl
      have hiv := hi _ rfl
      simp only [Rd] at hiv hr
      subst hiv; subst hr
      have hlt : z.toNat < s.size := by omega
      have hb : s[z.toNat]? = some s[z.toNat] := by
        simp [hlt]
      refine ⟨.int .u8 (s[z.toNat].toNat : Nat), ?_, ?_⟩
      · simp only [Instr.index, asIntOf, Sem.run_bind, Sem.run_pure, Result.andThen_ok, run_underlying ((hT.ok t _ ht).str rfl)]
        rw [if_pos hc.1, hb]; rfl
      · simp only [Rd]
        have : s.data.toList.getD z.toNat 0 = s[z.toNat] := by
          rw [List.getD_eq_getElem?_getD]
          have : s.data.toList[z.toNat]? = some s[z.toNat] := by
            rw [Array.getElem?_toList]
            exact Array.getElem?_eq_getElem (by simpa using hlt)
          rw [this]; rfl
        rw [this]
    · cases h
  · rename_i xs k z
    split at h
    · rename_i m e _ _ _ ht
      split at h
      · rename_i ti hte
        obtain ⟨rfl, rfl⟩ := pair_inj h
        have hr := hx _ rfl
        have hiv := hi _ rfl
        simp only [Rd] at hiv hr
        subst hiv
        obtain ⟨us, rfl, hl⟩ := hr
        obtain ⟨v, hv, hd⟩ := part_sound (hT.ok e _ hte) hl hc.2 w
        refine ⟨v, ?_, hd⟩
        simp only [Instr.index, asIntOf, Sem.run_bind, Sem.run_pure, Result.andThen_ok, run_underlying ((hT.ok t _ ht).arr rfl)]
        rw [if_pos hc.1]
        simp only [Sem.run_bind, (hT.ok e _ hte).run_size, Result.andThen_ok]
        exact hv
      · cases h
    · cases h
  · cases h

theorem load_sound {t : TypeId} {dx : Option D} {d : D} {c : Prop} (h : loadP (T t) dx = some (d, c)) (hc : c) {x : Value} (hx : ∀ d', dx = some d' → Rd E d' x) :
    ∃ v, (Instr.loadAt t x).run P E.w = .ok v E.w ∧ Rd E d v := by
  unfold loadP at h
  split at h
  · rename_i xs j
    split at h
    · rename_i ti ht
      injection h with h
      have hr := hx _ rfl
      simp only [Rd] at hr
      obtain ⟨hnl, ad, rfl, hs, ha⟩ := hr
      have hc0 : (partC ti xs j).2 := by rw [h]; exact hc
      obtain ⟨hc', he⟩ := partC_eq (hT.ok t _ ht).len hc0
      obtain ⟨v, hv, hd⟩ := ha.part (hT.ok t _ ht) hc'
      rw [← he, h] at hd
      exact ⟨v, by simp [Instr.loadAt, Instr.sureAddr, hv], hd⟩
    · cases h
  · cases h

omit hT in
theorem extract_sound {i : Nat} {dx : Option D} {d : D} {c : Prop} (h : extractD i dx = some (d, c)) {x : Value} (hx : ∀ d', dx = some d' → Rd E d' x) (w : World) :
    ∃ v, (Instr.extract x i).run P w = .ok v w ∧ Rd E d v := by
  have getT : ∀ (ds : List D) (us : List Value) (i : Nat) (d : D), RdT E ds us → ds[i]? = some d → ∃ u, us[i]? = some u ∧ Rd E d u := by
    intro ds
    induction ds with
    | nil => intro us i d _ h; simp at h
    | cons d' ds ih =>
      intro us i d hr hi
      simp only [RdT] at hr
      obtain ⟨u, r, rfl, hd, hr⟩ := hr
      cases i with
      | zero => simp at hi; subst hi; exact ⟨u, by simp, hd⟩
      | succ i => simpa using ih r i d hr (by simpa using hi)
  unfold extractD at h
  split at h
  · rename_i xs
    split at h
    · rename_i d' hd'
      obtain ⟨rfl, rfl⟩ := pair_inj h
      have hr := hx _ rfl
      simp only [Rd] at hr
      obtain ⟨us, rfl, ht⟩ := hr
      obtain ⟨u, hu, hd⟩ := getT _ _ _ _ ht hd'
      have hu' : us[i]? = some u := by simpa using hu
      exact ⟨u, by simp [Instr.extract, hu'], hd⟩
    · cases h
  · cases h
end
end Go.VD
