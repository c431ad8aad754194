import Derived.Test.YtahiigfpikohgaaZUo0
section
namespace Go.VD
set_option linter.unusedVariables false
set_option linter.unusedSimpArgs false
def Runs (P : Program) (s : Sem Value) (w : World) (v : Value) : Prop := s.run P w = .ok v w
section
variable {P : Program} {T : Tbl} (hT : TblOk P T) {E : Ctx}
theorem RdL.ofExtract {ds : List D} {us : Array Value} (h : RdL E ds us.toList) (off n : Nat) : RdL E ((ds.drop off).take n) (us.extract off (off + n)).toList := by
  have : (us.extract off (off + n)).toList = (us.toList.drop off).take n := by
    simp [Array.toList_extract, List.extract_eq_take_drop]
  rw [this]
  exact (h.drop off).take n
theorem part_sound {t : TypeId} {ti : TI} (ht : TiOk P t ti) {xs : List D} {us : Array Value} (h : RdL E xs us.toList) {off : Nat} (hc : (partD ti xs off).2) (w : World) :
    ∃ v, (part t us off).run P w = .ok v w ∧ Rd E (partD ti xs off).1 v := by
  simp only [part, Sem.run_bind, ht.run_isAgg, Result.andThen_ok]
  cases hagg : ti.td.isAgg with
  | true =>
    rw [partD_agg hagg] at hc ⊢
    simp only [if_true, Sem.run_bind, ht.run_size, Result.andThen_ok, Sem.run_pure]
    refine ⟨_, rfl, ?_⟩
    simp only [Rd]
    exact ⟨_, rfl, h.ofExtract off ti.size⟩
  | false =>
    obtain ⟨hc, he⟩ := partD_one hagg hc
    rw [he]
    simp only [Bool.false_eq_true, if_false]
    have hl := h.length
    obtain ⟨u, hu, ho, hd⟩ := h.get xs us.toList off xs[off] (List.getElem?_eq_getElem hc)
    have hu' : us[off]? = some u := by simpa using hu
    simp only [hu']
    refine ⟨u, rfl, ?_⟩
    rw [List.getD_eq_getElem?_getD, List.getElem?_eq_getElem hc]
    exact hd
theorem RdAt.part {xs : List D} {ad : Addr} (h : RdAt E xs ad 0) {t : TypeId} {ti : TI} (ht : TiOk P t ti) {j : Nat} (hc : (partD ti xs j).2) :
    ∃ v, (loadVar t (ad.add j)).run P E.w = .ok v E.w ∧ Rd E (partD ti xs j).1 v := by
  simp only [loadVar, Sem.run_bind, ht.run_isAgg, Result.andThen_ok]
  cases hagg : ti.td.isAgg with
  | true =>
    rw [partD_agg hagg] at hc ⊢
    simp only [if_true, Sem.run_bind, ht.run_size, Result.andThen_ok]
    obtain ⟨us, h1, h2⟩ := RdAt.list _ _ _ ((h.drop j).take ti.size)
    have hl := h1.length
    have hl' : us.length = ti.size := by rw [hl]; simp at hc ⊢; omega
    have := run_loadCells_list (P := P) (w := E.w) (ad.add j) us (fun i v hv => by have := h2 i v hv; simpa using this)
    rw [hl'] at this
    simp only [this, Result.andThen_ok, Sem.run_pure]
    refine ⟨_, rfl, ?_⟩
    simp only [Rd]
    exact ⟨_, rfl, by simpa using h1⟩
  | false =>
    obtain ⟨hc, he⟩ := partD_one hagg hc
    rw [he]
    simp only [Bool.false_eq_true, if_false]
    obtain ⟨u, hu, ho, hd⟩ := RdAt.get _ _ _ h j xs[j] (List.getElem?_eq_getElem hc)
    rw [Nat.zero_add] at hu
    refine ⟨u, by simp [hu], ?_⟩
    rw [List.getD_eq_getElem?_getD, List.getElem?_eq_getElem hc]
    exact hd
include hT
theorem fieldOf_spec {s : TypeId} {f off : Nat} {ti : TI} (h : fieldOf T s f = some (off, ti)) :
    ∃ F fd, P.underlying s = some (.struct F) ∧ F[f]? = some fd ∧ fd.offset = off ∧ TiOk P fd.type ti := by
  unfold fieldOf at h
  split at h
  · rename_i fs a b c hs
    split at h
    · rename_i o ft hf
      split at h
      · rename_i ti' hft
        injection h with h; injection h with h1 h2
        subst h1; subst h2
        obtain ⟨F, hF, hm⟩ := (hT.ok s _ hs).struct rfl
        rw [← hm] at hf
        simp only [List.getElem?_map, Array.getElem?_toList] at hf
        cases hF' : F[f]? with
        | none => simp [hF'] at hf
        | some fd =>
          simp [hF'] at hf
          exact ⟨F, fd, hF, hF', hf.1, hf.2 ▸ hT.ok ft _ hft⟩
      · cases h
    · cases h
  · cases h
theorem fieldAddr_sound {s : TypeId} {f : Nat} {dx : Option D} {d : D} {c : Prop} (h : fieldAddrD (fieldOf T s f) dx = some (d, c)) (hc : c) {x : Value} (hx : ∀ d', dx = some d' → Rd E d' x) (w : World) :
    ∃ v, (Instr.fieldAt s x f).run P w = .ok v w ∧ Rd E d v := by
  have main : ∀ (off : Nat) (ti : TI) (a : Addr), fieldOf T s f = some (off, ti) → ti.size ≠ 0 → (Instr.fieldAt s (.pointer (some a)) f).run P w = .ok (.pointer (some (a.add off))) w := by
    intro off ti a hF hsz
    obtain ⟨F, fd, h1, h2, h3, h4⟩ := fieldOf_spec hT hF
    simp [Instr.fieldAt, run_underlying h1, h2, Instr.sureAddr, fieldPlace, h4.run_size, hsz, h3]
  unfold fieldAddrD at h
  split at h
  · rename_i b o
    split at h
    · rename_i off ti hF
      split at h
      · cases h
      · rename_i hsz
        obtain ⟨rfl, rfl⟩ := pair_inj h
        have hr := hx _ rfl
        simp only [Rd] at hr
        obtain ⟨hb, rfl⟩ := hr
        refine ⟨_, main off ti _ hF hsz, ?_⟩
        simp only [Rd]
        refine ⟨hb, ?_⟩
        unfold Addr.add; split
        · rename_i h0; subst h0; rfl
        · rfl
    · cases h
  · rename_i xs j
    split at h
    · rename_i off ti hF
      split at h
      · cases h
      · rename_i hsz
        obtain ⟨rfl, rfl⟩ := pair_inj h
        have hr := hx _ rfl
        simp only [Rd] at hr
        obtain ⟨hnl, ad, rfl, hs, ha⟩ := hr
        refine ⟨_, main off ti _ hF hsz, ?_⟩
        simp only [Rd]
        exact ⟨hnl, ad, by rw [add_add], hs, ha⟩
    · cases h
  · cases h
theorem field_sound {s : TypeId} {f : Nat} {dx : Option D} {d : D} {c : Prop} (h : fieldD (fieldOf T s f) dx = some (d, c)) (hc : c) {x : Value} (hx : ∀ d', dx = some d' → Rd E d' x) (w : World) :
    ∃ v, (Instr.field s x f).run P w = .ok v w ∧ Rd E d v := by
  unfold fieldD at h
  split at h
  · rename_i xs
    split at h
    · rename_i off ti hF
      injection h with h
      have hr := hx _ rfl
      simp only [Rd] at hr
      obtain ⟨us, rfl, hl⟩ := hr
      obtain ⟨F, fd, h1, h2, h3, h4⟩ := fieldOf_spec hT hF
      have hc' : (partD ti xs off).2 := by rw [h]; exact hc
      obtain ⟨v, hv, hd⟩ := part_sound h4 hl hc' w
      rw [h] at hd
      refine ⟨v, ?_, hd⟩
      simp [Instr.field, run_underlying h1, h2, asAgg, h3, hv]
    · cases h
  · cases h
theorem indexAddr_sound {t : TypeId} {dx di : Option D} {d : D} {c : Prop} (h : indexAddrD T (T t) dx di = some (d, c)) (hc : c) {x i : Value} (hx : ∀ d', dx = some d' → Rd E d' x) (hi : ∀ d', di = some d' → Rd E d' i) (w : World) :
    ∃ v, (Instr.indexAt t x i).run P w = .ok v w ∧ Rd E d v := by
  unfold indexAddrD at h
  split at h
  · rename_i n xs k z
    split at h
    · rename_i e _ _ _ ht
      split at h
      · rename_i ti hte
        obtain ⟨rfl, rfl⟩ := pair_inj h
        have hr := hx _ rfl
        have hiv := hi _ rfl
        simp only [Rd] at hr hiv
        subst hiv
        obtain ⟨hnl, A, cp, rfl, h1, h2, h3⟩ := hr
        obtain ⟨ad, rfl, hs, ha⟩ := h3 (by omega)
        refine ⟨.pointer (some (ad.add (z.toNat * ti.size))), ?_, ?_⟩
        · simp [Instr.indexAt, run_underlying ((hT.ok t _ ht).slice rfl), asIntOf, hc, (hT.ok e _ hte).run_size]
        · simp only [Rd]; exact ⟨hnl, ad, rfl, hs, ha⟩
      · cases h
    · cases h
  · rename_i b off n cp k z
    split at h
    · rename_i e _ _ _ ht
      split at h
      · rename_i ti hte
        obtain ⟨rfl, rfl⟩ := pair_inj h
        have hr := hx _ rfl
        have hiv := hi _ rfl
        simp only [Rd] at hiv
        subst hiv
        have : b < E.H.length ∧ ∃ A c, x = .slice A n c ∧ n ≤ c ∧ (0 < c → A = some ⟨(E.ρ b).1, off, none⟩) := by
          cases cp with
          | exact c _ => simp only [Rd] at hr; obtain ⟨h1, h2, h3, A, h4, h5⟩ := hr; exact ⟨h1, A, c, h4, h2, h5⟩
          | toEnd es => simp only [Rd] at hr; obtain ⟨h1, A, c, h4, h2, h3, _, h5⟩ := hr; exact ⟨h1, A, c, h4, h2, h5⟩
        obtain ⟨hb, A, c, rfl, hnc, hA⟩ := this
        have hA := hA (by omega)
        subst hA
        refine ⟨.pointer (some ((⟨(E.ρ b).1, off, none⟩ : Addr).add (z.toNat * ti.size))), ?_, ?_⟩
        · simp [Instr.indexAt, run_underlying ((hT.ok t _ ht).slice rfl), asIntOf, hc, (hT.ok e _ hte).run_size]
        · simp only [Rd]
          refine ⟨hb, ?_⟩
          unfold Addr.add; split
          · rename_i h0; rw [h0]; rfl
          · rfl
      · cases h
    · cases h
  · rename_i b off k z
    split at h
    · rename_i m e _ _ _ ht
      split at h
      · rename_i ti hte
        obtain ⟨rfl, rfl⟩ := pair_inj h
        have hr := hx _ rfl
        have hiv := hi _ rfl
        simp only [Rd] at hiv hr
        subst hiv
        obtain ⟨hb, rfl⟩ := hr
        refine ⟨.pointer (some ((⟨(E.ρ b).1, off, none⟩ : Addr).add (z.toNat * ti.size))), ?_, ?_⟩
        · simp [Instr.indexAt, run_underlying ((hT.ok t _ ht).arr rfl), asIntOf, hc, (hT.ok e _ hte).run_size, Instr.sureAddr]
        · simp only [Rd]
          refine ⟨hb, ?_⟩
          unfold Addr.add; split
          · rename_i h0; rw [h0]; rfl
          · rfl
      · cases h
    · cases h
  · rename_i xs j k z
    split at h
    · rename_i m e _ _ _ ht
      split at h
      · rename_i ti hte
        obtain ⟨rfl, rfl⟩ := pair_inj h
        have hr := hx _ rfl
        have hiv := hi _ rfl
        simp only [Rd] at hiv hr
        subst hiv
        obtain ⟨hnl, ad, rfl, hs, ha⟩ := hr
        refine ⟨.pointer (some ((ad.add j).add (z.toNat * ti.size))), ?_, ?_⟩
        · simp [Instr.indexAt, run_underlying ((hT.ok t _ ht).arr rfl), asIntOf, hc, (hT.ok e _ hte).run_size, Instr.sureAddr]
        · simp only [Rd]
          exact ⟨hnl, ad, by rw [add_add], hs, ha⟩
      · cases h
    · cases h
  · cases h
theorem index_sound {t : TypeId} {dx di : Option D} {d : D} {c : Prop} (h : indexD T (T t) dx di = some (d, c)) (hc : c) {x i : Value} (hx : ∀ d', dx = some d' → Rd E d' x) (hi : ∀ d', di = some d' → Rd E d' i) (w : World) :
    ∃ v, (Instr.index t x i).run P w = .ok v w ∧ Rd E d v := by
  unfold indexD at h
  split at h
  · rename_i s k z
    split at h
    · rename_i ht
      obtain ⟨rfl, rfl⟩ := pair_inj h
      have hr := hx _ rfl
      have hiv := hi _ rfl
      simp only [Rd] at hiv hr
      subst hiv; subst hr
      have hlt : z.toNat < s.size := by omega
      have hb : s[z.toNat]? = some s[z.toNat] := by
        simp [hlt]
      refine ⟨.int .u8 (s[z.toNat].toNat : Nat), ?_, ?_⟩
      · simp only [Instr.index, asIntOf, Sem.run_bind, Sem.run_pure, Result.andThen_ok, run_underlying ((hT.ok t _ ht).str rfl)]
        rw [if_pos hc.1, hb]; rfl
      · simp only [Rd]
        have : s.data.toList.getD z.toNat 0 = s[z.toNat] := by
          rw [List.getD_eq_getElem?_getD]
          have : s.data.toList[z.toNat]? = some s[z.toNat] := by
            rw [Array.getElem?_toList]
            exact Array.getElem?_eq_getElem (by simpa using hlt)
          rw [this]; rfl
        rw [this]
    · cases h
  · rename_i xs k z
    split at h
    · rename_i m e _ _ _ ht
      split at h
      · rename_i ti hte
        obtain ⟨rfl, rfl⟩ := pair_inj h
        have hr := hx _ rfl
        have hiv := hi _ rfl
        simp only [Rd] at hiv hr
        subst hiv
        obtain ⟨us, rfl, hl⟩ := hr
        obtain ⟨v, hv, hd⟩ := part_sound (hT.ok e _ hte) hl hc.2 w
        refine ⟨v, ?_, hd⟩
        simp only [Instr.index, asIntOf, Sem.run_bind, Sem.run_pure, Result.andThen_ok, run_underlying ((hT.ok t _ ht).arr rfl)]
        rw [if_pos hc.1]
        simp only [Sem.run_bind, (hT.ok e _ hte).run_size, Result.andThen_ok]
        exact hv
      · cases h
    · cases h
  · cases h
theorem load_sound {t : TypeId} {dx : Option D} {d : D} {c : Prop} (h : loadP (T t) dx = some (d, c)) (hc : c) {x : Value} (hx : ∀ d', dx = some d' → Rd E d' x) :
    ∃ v, (Instr.loadAt t x).run P E.w = .ok v E.w ∧ Rd E d v := by
  unfold loadP at h
  split at h
  · rename_i xs j
    split at h
    · rename_i ti ht
      injection h with h
      have hr := hx _ rfl
      simp only [Rd] at hr
      obtain ⟨hnl, ad, rfl, hs, ha⟩ := hr
      have hc0 : (partC ti xs j).2 := by rw [h]; exact hc
      obtain ⟨hc', he⟩ := partC_eq (hT.ok t _ ht).len hc0
      obtain ⟨v, hv, hd⟩ := ha.part (hT.ok t _ ht) hc'
      have hd := he _ _ hd
      rw [h] at hd
      exact ⟨v, by simp [Instr.loadAt, Instr.sureAddr, hv], hd⟩
    · cases h
  · cases h
omit hT in
theorem extract_sound {i : Nat} {dx : Option D} {d : D} {c : Prop} (h : extractD i dx = some (d, c)) {x : Value} (hx : ∀ d', dx = some d' → Rd E d' x) (w : World) :
    ∃ v, (Instr.extract x i).run P w = .ok v w ∧ Rd E d v := by
  have getT : ∀ (ds : List D) (us : List Value) (i : Nat) (d : D), RdT E ds us → ds[i]? = some d → ∃ u, us[i]? = some u ∧ Rd E d u := by
    intro ds
    induction ds with
    | nil => intro us i d _ h; simp at h
    | cons d' ds ih =>
      intro us i d hr hi
      simp only [RdT] at hr
      obtain ⟨u, r, rfl, hd, hr⟩ := hr
      cases i with
      | zero => simp at hi; subst hi; exact ⟨u, by simp, hd⟩
      | succ i => simpa using ih r i d hr (by simpa using hi)
  unfold extractD at h
  split at h
  · rename_i xs
    split at h
    · rename_i d' hd'
      obtain ⟨rfl, rfl⟩ := pair_inj h
      have hr := hx _ rfl
      simp only [Rd] at hr
      obtain ⟨us, rfl, ht⟩ := hr
      obtain ⟨u, hu, hd⟩ := getT _ _ _ _ ht hd'
      have hu' : us[i]? = some u := by simpa using hu
      exact ⟨u, by simp [Instr.extract, hu'], hd⟩
    · cases h
  · cases h
end
end Go.VD
end
section
namespace Go.VD
set_option linter.unusedVariables false
set_option linter.unusedSimpArgs false
section
variable {P : Program} {T : Tbl} (hT : TblOk P T) {E : Ctx}
theorem hiN_none (n : Nat) : hiN n none = n := rfl
theorem hiN_some (n : Nat) (j : Int) : hiN n (some j) = j.toNat := rfl
def BoundV : Option Int → Option Value → Prop
  | none, none => True
  | some i, some v => ∃ k, v = .int k i
  | _, _ => False
theorem run_bounds {isSlice : Bool} {n cap : Nat} {lo hi mx : Option Int} {lv hv mv : Option Value} (h1 : BoundV lo lv) (h2 : BoundV hi hv) (h3 : BoundV mx mv) (hc : sliceC n lo hi mx) (hn : n ≤ cap) (w : World) :
    (Instr.sliceBounds isSlice n cap lv hv mv).run P w = .ok (loN lo, hiN n hi, hiN cap mx) w ∧ loN lo ≤ hiN n hi ∧ hiN n hi ≤ hiN n mx ∧ hiN n mx ≤ n := by
  obtain ⟨c1, c2, c3⟩ := hc
  have b : ∀ (i : Int) (k : IntKind) (y : Nat) (code : BoundsCode), 0 ≤ i → i ≤ y → (Instr.sliceBound (.int k i) y code).run P w = .ok i.toNat w := by
    intro i k y code h0 h1
    simp [Instr.sliceBound, asIntOf, h0, h1]
  cases lo <;> cases lv <;> simp only [BoundV] at h1 <;> cases hi <;> cases hv <;> simp only [BoundV] at h2 <;> cases mx <;> cases mv <;> simp only [BoundV] at h3
  all_goals simp only [hiN, loN, Option.isSome, reduceCtorEq, and_false] at c1 c2 c3 ⊢
  all_goals (try obtain ⟨_, rfl⟩ := h1)
  all_goals (try obtain ⟨_, rfl⟩ := h2)
  all_goals (try obtain ⟨_, rfl⟩ := h3)
  all_goals refine ⟨?_, by omega, by omega, by omega⟩
  all_goals simp only [Instr.sliceBounds, Sem.run_bind, Sem.run_pure, Result.andThen_ok]
  all_goals (try rw [b _ _ _ _ (by omega) (by omega)])
  all_goals simp only [Result.andThen_ok, Sem.run_pure, Sem.run_bind]
  all_goals (try rw [b _ _ _ _ (by omega) (by omega)])
  all_goals simp only [Result.andThen_ok, Sem.run_pure, Sem.run_bind]
  all_goals (try rw [b _ _ _ _ (by omega) (by omega)])
  all_goals simp only [Result.andThen_ok, Sem.run_pure, Sem.run_bind]
theorem segD_at {xs : List D} {ad : Addr} (h : RdAt E xs ad 0) (es n : Nat) (lo hi : Option Int) : RdAt E (segD es xs n lo hi) (ad.add (loN lo * es)) 0 := by
  cases lo <;> cases hi <;> simp only [segD, loN, Nat.zero_mul]
  · simpa [Addr.add] using h
  · have := h.take (Int.toNat ‹Int› * es); simpa [Addr.add] using this
  · exact h.drop _
  · exact (h.drop _).take _
theorem segD_nameless {xs : List D} (h : NamelessL xs) (es n : Nat) (lo hi : Option Int) : NamelessL (segD es xs n lo hi) := by
  cases lo <;> cases hi <;> simp only [segD]
  · exact h
  · exact h.take _
  · exact h.drop _
  · exact (h.drop _).take _
include hT
theorem slice_sound {t : TypeId} {lo hi mx : Option (Option Int)} {lv hv mv : Option Value} {dx : Option D} {d : D} {c : Prop} (h : sliceD T (T t) lo hi mx dx = some (d, c)) (hc : c)
    {x : Value} (hx : ∀ d', dx = some d' → Rd E d' x) (h1 : ∀ b, lo = some b → BoundV b lv) (h2 : ∀ b, hi = some b → BoundV b hv) (h3 : ∀ b, mx = some b → BoundV b mv) (w : World) :
    ∃ v, (Instr.sliceAt t x lv hv mv).run P w = .ok v w ∧ Rd E d v := by
  unfold sliceD at h
  split at h
  · rename_i n xs
    split at h
    · rename_i e _ _ _ lo hi mx ht
      split at h
      · rename_i ti hte
        obtain ⟨rfl, rfl⟩ := pair_inj h
        have hr := hx _ rfl
        simp only [Rd] at hr
        obtain ⟨hnl, A, cp, rfl, hn, hm, hA⟩ := hr
        obtain ⟨hb, e1, e2, e3⟩ := run_bounds (P := P) (isSlice := true) (h1 _ rfl) (h2 _ rfl) (h3 _ rfl) hc hn w
        have hu := run_underlying ((hT.ok t _ ht).slice rfl) w
        refine ⟨_, by
          simp only [Instr.sliceAt, Instr.slice, Sem.run_bind, hu, Result.andThen_ok, hb, (hT.ok e _ hte).run_size, Sem.run_pure]; rfl, ?_⟩
        simp only [Rd]
        refine ⟨segD_nameless hnl _ _ _ _, _, _, rfl, ?_, ?_, fun hlt => ?_⟩
        · cases mx <;> simp only [hiN_none, hiN_some] at e2 e3 ⊢ <;> omega
        · cases mx <;> simp only [hiN_none, hiN_some] at e2 e3 ⊢ <;> omega
        · have h0 : 0 < n := by omega
          obtain ⟨ad, rfl, hs, ha⟩ := hA h0
          have hne : ¬ hiN cp mx = loN lo := by cases mx <;> simp only [hiN_none, hiN_some] at e2 e3 ⊢ <;> omega
          rw [if_neg hne]
          exact ⟨_, rfl, by rw [block_add]; exact hs, segD_at ha _ _ _ _⟩
      · cases h
    · cases h
  · rename_i b off n cp
    split at h
    · rename_i e _ _ _ lo hi mx ht
      split at h
      · rename_i ti hte
        obtain ⟨rfl, rfl⟩ := pair_inj h
        obtain ⟨hcs, hes⟩ := hc
        have hr := hx _ rfl
        have hu := run_underlying ((hT.ok t _ ht).slice rfl) w
        have key : b < E.H.length ∧ ∃ A cap, x = .slice A n cap ∧ n ≤ cap ∧ cap ≤ maxLen ∧ (0 < cap → A = some ⟨(E.ρ b).1, off, none⟩) ∧ (match cp with | .exact c _ => cap = c | .toEnd es => off + cap * es = (E.ρ b).2) := by
          cases cp with
          | exact c _ => simp only [Rd] at hr; obtain ⟨h1, h2, h3, A, h4, h5⟩ := hr; exact ⟨h1, A, c, h4, h2, h3, h5, rfl⟩
          | toEnd es => simp only [Rd] at hr; obtain ⟨h1, A, c, h4, h2, h3, h6, h5⟩ := hr; exact ⟨h1, A, c, h4, h2, h3, h5, h6⟩
        obtain ⟨hb, A, cap, rfl, hn, hm, hA, hcap⟩ := key
        obtain ⟨hbd, e1, e2, e3⟩ := run_bounds (P := P) (isSlice := true) (h1 _ rfl) (h2 _ rfl) (h3 _ rfl) hcs hn w
        refine ⟨_, by
          simp only [Instr.sliceAt, Instr.slice, Sem.run_bind, hu, Result.andThen_ok, hbd, (hT.ok e _ hte).run_size, Sem.run_pure]; rfl, ?_⟩
        have haddr : ∀ m, loN lo ≤ m → m ≤ cap → 0 < m - loN lo → (if m = loN lo then A else A.map (·.add (loN lo * ti.size))) = some ⟨(E.ρ b).1, off + loN lo * ti.size, none⟩ := by
          intro m hm1 hm2 hm3
          rw [if_neg (by omega), hA (by omega)]
          simp only [Option.map_some]
          unfold Addr.add; split
          · rename_i h0; rw [h0]; rfl
          · rfl
        cases mx with
        | none =>
          simp only [hiN_none, hiN_some] at e2 e3 haddr ⊢
          cases cp with
          | exact c es =>
            simp only at hcap; subst hcap
            simp only [capD, Rd]
            exact ⟨hb, by omega, by omega, _, rfl, haddr cap (by omega) (Nat.le_refl _)⟩
          | toEnd es =>
            simp only at hcap hes; subst hes
            simp only [capD, Rd]
            refine ⟨hb, _, _, rfl, by omega, by omega, ?_, haddr cap (by omega) (Nat.le_refl _)⟩
            have : loN lo * ti.size + (cap - loN lo) * ti.size = cap * ti.size := by rw [← Nat.add_mul]; congr 1; omega
            omega
        | some m =>
          simp only [hiN_none, hiN_some] at e2 e3 haddr ⊢
          have e4 : m.toNat ≤ cap := by omega
          cases cp with
          | exact c es =>
            simp only [capD, Rd]
            exact ⟨hb, by omega, by omega, _, rfl, haddr m.toNat (by omega) e4⟩
          | toEnd es =>
            simp only [capD, Rd]
            exact ⟨hb, by omega, by omega, _, rfl, haddr m.toNat (by omega) e4⟩
      · cases h
    · cases h
  · rename_i b off
    split at h
    · rename_i m e _ _ _ lo hi ht
      split at h
      · rename_i ti hte
        obtain ⟨rfl, rfl⟩ := pair_inj h
        have hr := hx _ rfl
        simp only [Rd] at hr
        obtain ⟨hb, rfl⟩ := hr
        obtain ⟨hcs, hml⟩ := hc
        obtain ⟨hbd, e1, e2, e3⟩ := run_bounds (P := P) (isSlice := false) (h1 _ rfl) (h2 _ rfl) (h3 _ rfl) hcs (Nat.le_refl _) w
        have hu := run_underlying ((hT.ok t _ ht).arr rfl) w
        refine ⟨_, by
          simp only [Instr.sliceAt, Sem.run_bind, hu, Result.andThen_ok, Instr.sureAddr, hbd, (hT.ok e _ hte).run_size, Sem.run_pure]; rfl, ?_⟩
        simp only [hiN_none, hiN_some] at e2 e3
        simp only [Rd]
        refine ⟨hb, by omega, by omega, _, rfl, fun h0 => ?_⟩
        rw [if_neg (by rw [hiN_none]; omega)]
        unfold Addr.add; split
        · rename_i h0; rw [h0]; rfl
        · rfl
      · cases h
    · cases h
  · rename_i s
    split at h
    · rename_i lo hi ht
      obtain ⟨rfl, rfl⟩ := pair_inj h
      have hr := hx _ rfl
      simp only [Rd] at hr
      subst hr
      obtain ⟨hbd, e1, e2, e3⟩ := run_bounds (P := P) (isSlice := false) (h1 _ rfl) (h2 _ rfl) (h3 _ rfl) hc (Nat.le_refl _) w
      have hu := run_underlying ((hT.ok t _ ht).str rfl) w
      have hmv : mv = none := by have := h3 _ rfl; cases mv <;> simp_all [BoundV]
      subst hmv
      refine ⟨_, by
        simp only [Instr.sliceAt, Instr.slice, Sem.run_bind, hu, Result.andThen_ok, hbd, Sem.run_pure, Option.isSome, Bool.false_eq_true, if_false]; rfl, ?_⟩
      simp only [Rd]
    · cases h
  · split at h
    · rename_i e _ _ _ lo hi mx ht
      split at h
      · rename_i ti hte
        obtain ⟨rfl, rfl⟩ := pair_inj h
        have hr := hx _ rfl
        simp only [Rd] at hr
        subst hr
        obtain ⟨hbd, e1, e2, e3⟩ := run_bounds (P := P) (isSlice := true) (h1 _ rfl) (h2 _ rfl) (h3 _ rfl) hc (Nat.le_refl _) w
        have hu := run_underlying ((hT.ok t _ ht).slice rfl) w
        refine ⟨_, by
          simp only [Instr.sliceAt, Instr.slice, Sem.run_bind, hu, Result.andThen_ok, hbd, (hT.ok e _ hte).run_size, Sem.run_pure]; rfl, ?_⟩
        simp only [Rd]
        cases mx with
        | none =>
          simp only [hiN_none, hiN_some] at e2 e3 ⊢
          have a1 : hiN 0 hi = 0 := by omega
          have a2 : loN lo = 0 := by omega
          simp [a1, a2]
        | some m =>
          simp only [hiN_none, hiN_some] at e2 e3 ⊢
          have a1 : hiN 0 hi = 0 := by omega
          have a2 : loN lo = 0 := by omega
          have a3 : m.toNat = 0 := by omega
          simp [a1, a2, a3]
      · cases h
    · cases h
  · cases h
omit hT
theorem cellsD_rd {d : D} {ys : List D} (h : cellsD d = some ys) {x : Value} (hx : Rd E d x) : RdL E ys x.cells.toList := by
  have one : ∀ d x, Rd E d x → x.oneCell' = true → x.cells.toList = [x] → RdL E [d] x.cells.toList := fun d x h1 h2 h3 => by
    rw [h3]; simp only [RdL]; exact ⟨x, [], rfl, h2, h1, rfl⟩
  cases d with
  | v z =>
    simp only [cellsD] at h
    split at h
    case isFalse => cases h
    rename_i hz
    injection h with h; subst h
    have hx' := hx
    simp only [Rd] at hx; subst hx
    refine one _ _ hx' hz ?_
    cases x <;> simp_all [Value.cells, Value.oneCell']
  | ro n xs =>
    simp only [cellsD] at h; injection h with h; subst h
    have hx' := hx
    simp only [Rd] at hx; obtain ⟨_, A, c, rfl, _⟩ := hx
    exact one _ _ hx' rfl rfl
  | rp xs j =>
    simp only [cellsD] at h; injection h with h; subst h
    have hx' := hx
    simp only [Rd] at hx; obtain ⟨_, A, rfl, _⟩ := hx
    exact one _ _ hx' rfl rfl
  | sl b off n c =>
    simp only [cellsD] at h; injection h with h; subst h
    have hx' := hx
    cases c <;> simp only [Rd] at hx
    · obtain ⟨_, _, _, A, rfl, _⟩ := hx
      exact one _ _ hx' rfl rfl
    · obtain ⟨_, A, c, rfl, _⟩ := hx
      exact one _ _ hx' rfl rfl
  | ptr b off =>
    simp only [cellsD] at h; injection h with h; subst h
    have hx' := hx
    simp only [Rd] at hx; obtain ⟨_, rfl⟩ := hx
    exact one _ _ hx' rfl rfl
  | agg xs =>
    simp only [cellsD] at h; injection h with h; subst h
    simp only [Rd] at hx; obtain ⟨us, rfl, hl⟩ := hx
    exact hl
  | tup xs => simp [cellsD] at h
  | ifc t d =>
    simp only [cellsD] at h; injection h with h; subst h
    have hx' := hx
    simp only [Rd] at hx; obtain ⟨y, rfl, _⟩ := hx
    exact one _ _ hx' rfl rfl
  | fn f k caps =>
    simp only [cellsD] at h; injection h with h; subst h
    have hx' := hx
    simp only [Rd] at hx; obtain ⟨fs, us, rfl, _⟩ := hx
    exact one _ _ hx' rfl rfl
theorem setAll_length : ∀ (ys : List D) (cs : List D) (off : Nat), (setAll cs off ys).length = cs.length
  | [], cs, off => rfl
  | y :: ys, cs, off => by simp [setAll, setAll_length ys]
theorem setAll_rd : ∀ (ys : List D) (us : List Value) (cs : List D) (vs : Array Value) (off k : Nat), RdL E ys us → RdL E cs vs.toList →
    RdL E (setAll cs (off + k) ys) ((us.zipIdx k).foldl (fun cs (p : Value × Nat) => cs.setIfInBounds (off + p.2) p.1) vs).toList
  | [], us, cs, vs, off, k, h, hcs => by
    simp only [RdL] at h; subst h
    simpa [setAll] using hcs
  | y :: ys, us, cs, vs, off, k, h, hcs => by
    simp only [RdL] at h
    obtain ⟨u, r, rfl, ho, hd, hr⟩ := h
    simp only [setAll, List.zipIdx_cons, List.foldl_cons]
    have := setAll_rd ys r (cs.set (off + k) y) (vs.setIfInBounds (off + k) u) off (k + 1) hr (by
      rw [Array.toList_setIfInBounds]; exact hcs.set _ _ (off + k) y u ho hd)
    rwa [← Nat.add_assoc] at this
end
end Go.VD
end
section
namespace Go.VD
set_option linter.unusedVariables false
set_option linter.unusedSimpArgs false
def szOf (T : Tbl) (t : TypeId) : Nat := match T t with | some ti => ti.size | none => 0
section
variable {P : Program} {T : Tbl} (hT : TblOk P T) {E : Ctx}
theorem pick_sound {dc da db : Option D} {d : D} {c : Prop} (h : pickD dc da db = some (d, c)) (hc : c) {x y z : Value} (hx : ∀ d', dc = some d' → Rd E d' x) (hy : ∀ d', da = some d' → Rd E d' y) (hz : ∀ d', db = some d' → Rd E d' z) :
    ∃ b, x = .bool b ∧ Rd E d (if b then y else z) := by
  unfold pickD at h
  split at h
  · rename_i b p q
    obtain ⟨rfl, rfl⟩ := pair_inj h
    have h1 := hx _ rfl
    have h2 := hy _ rfl
    have h3 := hz _ rfl
    simp only [Rd] at h1 h2 h3
    refine ⟨b, h1, ?_⟩
    simp only [Rd]
    cases b
    · simpa using h3
    · simpa using h2
  · rename_i b da db _
    obtain ⟨rfl, rfl⟩ := pair_inj h
    have h1 := hx _ rfl
    have h2 := hy _ rfl
    have h3 := hz _ rfl
    simp only [Rd] at h1
    refine ⟨b, h1, ?_⟩
    cases b
    · simpa using h3
    · simpa using h2
  · rename_i b da
    obtain ⟨rfl, rfl⟩ := pair_inj h
    have h1 := hx _ rfl
    have h2 := hy _ rfl
    simp only [Rd] at h1
    exact ⟨b, h1, by rw [hc]; exact h2⟩
  · rename_i b db
    obtain ⟨rfl, rfl⟩ := pair_inj h
    have h1 := hx _ rfl
    have h2 := hz _ rfl
    simp only [Rd] at h1
    exact ⟨b, h1, by rw [hc]; exact h2⟩
  · cases h
theorem fill_sound {env : Env} {ev : Operand → Value} (hg : ∀ x d, opnd env x = some d → Rd E d (ev x)) {place : Nat → Option (Nat × Nat)} :
    ∀ (parts : List (Nat × Operand)) (cs : List D) (vs : Array Value) (out : List D), fillD place env cs parts = some out → RdL E cs vs.toList →
      ∃ ws : Array Value, Instr.fill place vs (parts.map fun p => (p.1, ev p.2)) = some ws ∧ RdL E out ws.toList
  | [], cs, vs, out, h, hcs => by
    simp only [fillD] at h; injection h with h; subst h
    exact ⟨vs, by simp [Instr.fill], hcs⟩
  | (i, x) :: rest, cs, vs, out, h, hcs => by
    simp only [fillD] at h
    split at h
    · rename_i off size ys hp hys
      split at h
      · rename_i hlen
        cases hgx : opnd env x with
        | none => simp [hgx] at hys
        | some dx =>
          simp only [hgx, Option.bind_some] at hys
          have hl := cellsD_rd hys (hg x dx hgx)
          have hn := hl.length
          have hcn := hcs.length
          have hsz : (ev x).cells.size = size := by rw [← Array.length_toList, hn]; exact hlen.1
          have hvs : vs.size = cs.length := by rw [← Array.length_toList, hcn]
          obtain ⟨ws, h1, h2⟩ := fill_sound hg rest _ _ out h (by
            have := setAll_rd (E := E) ys (ev x).cells.toList cs vs off 0 hl hcs
            simpa using this)
          refine ⟨ws, ?_, h2⟩
          simp only [List.map_cons, Instr.fill, hp]
          rw [if_neg (by simp [hsz]; omega)]
          rw [← h1]
          congr 1
          rw [← Array.foldl_toList]
          simp
      · cases h
    · cases h
def placesOf (T : Tbl) (l : List Field) : List (Nat × Nat) := l.map fun (f : Field) => (f.offset, szOf T f.type)
include hT
theorem run_places : ∀ (l : List Field), (∀ f ∈ l, (T f.type).isSome = true) → ∀ w, (l.mapM fun (f : Field) => (do pure (f.offset, ← sizeOf f.type) : Sem (Nat × Nat))).run P w = .ok (placesOf T l) w
  | [], _, w => by simp [placesOf]
  | f :: r, h, w => by
    obtain ⟨ti, hti⟩ := Option.isSome_iff_exists.1 (h f (by simp))
    have ih := run_places r (fun g hg => h g (by simp [hg])) w
    simp only [List.mapM_cons, Sem.run_bind, (hT.ok _ _ hti).run_size, Sem.run_pure, Result.andThen_ok, ih]
    simp [placesOf, szOf, hti]
theorem build_sound {env : Env} {ev : Operand → Value} (hg : ∀ x d, opnd env x = some d → Rd E d (ev x)) {t : TypeId} {parts : Array (Nat × Operand)} {d : D} {c : Prop} (h : buildD T env (T t) parts.toList = some (d, c)) (w : World) :
    ∃ v, (Instr.build t (parts.map fun (i, x) => (i, ev x))).run P w = .ok v w ∧ Rd E d v := by
  have hparts : (parts.map fun (p : Nat × Operand) => (p.1, ev p.2)).toList = parts.toList.map fun p => (p.1, ev p.2) := by simp
  have hz : ∀ (ti : TI), T t = some ti → ∃ z : Value, (∀ w, (zeroValue t).run P w = .ok z w) ∧ RdL E (ti.zero.map .v) z.cells.toList := fun ti ht => by
    obtain ⟨z, h1, h2⟩ := (hT.ok t ti ht).run_zero
    refine ⟨z, h2, ?_⟩
    rw [h1]
    exact RdL.scalars E _ (by rw [List.all_eq_true]; exact (hT.ok t ti ht).one)
  unfold buildD at h
  split at h
  · rename_i fs _ _ zero ht
    split at h
    · rename_i hall
      obtain ⟨z, hz1, hz2⟩ := hz _ ht
      cases hf : fillD (placeD T fs) env (zero.map .v) parts.toList with
      | none => simp [hf] at h
      | some cs =>
        simp only [hf, Option.map_some] at h
        obtain ⟨rfl, rfl⟩ := pair_inj h
        obtain ⟨F, hF, hm⟩ := (hT.ok t _ ht).struct rfl
        have hall' : ∀ f ∈ F.toList, (T f.type).isSome = true := by
          intro f hfm
          rw [← hm, List.all_map, List.all_eq_true] at hall
          exact hall f hfm
        have hmap : (F.mapM fun (f : Field) => (do pure (f.offset, ← sizeOf f.type) : Sem (Nat × Nat))).run P w = .ok (placesOf T F.toList).toArray w := by
          rw [Array.mapM_eq_mapM_toList]
          simp only [Sem.run_map, run_places hT F.toList hall', Result.andThen_ok]
        have hplace : ∀ i p, placeD T fs i = some p → (placesOf T F.toList).toArray[i]? = some p := by
          intro i p hp
          unfold placeD at hp
          split at hp
          · rename_i off ft hfs
            split at hp
            · rename_i ti hti
              injection hp with hp; subst hp
              rw [← hm] at hfs
              simp only [List.getElem?_map] at hfs
              cases hFi : F.toList[i]? with
              | none => simp [hFi] at hfs
              | some f =>
                simp only [hFi, Option.map_some, Option.some.injEq, Prod.mk.injEq] at hfs
                simp only [List.getElem?_toArray, placesOf, List.getElem?_map, hFi, Option.map_some, hfs.2, hti, hfs.1, szOf]
            · cases hp
          · cases hp
        have hplace' : placeD T fs = fun i => (placesOf T F.toList).toArray[i]? := by
          funext i
          cases hp : placeD T fs i with
          | some p => exact (hplace i p hp).symm
          | none =>
            unfold placeD at hp
            simp only [List.getElem?_toArray, placesOf, List.getElem?_map]
            cases hFi : F.toList[i]? with
            | none => rfl
            | some f =>
              exfalso
              have hs := hall' f (List.mem_of_getElem? hFi)
              obtain ⟨ti, hti⟩ := Option.isSome_iff_exists.1 hs
              rw [← hm] at hp
              simp [hFi, hti] at hp
        obtain ⟨ws, h1, h2⟩ := fill_sound (E := E) hg parts.toList _ z.cells _ hf hz2
        rw [hplace'] at h1
        refine ⟨.agg ws, ?_, by simp only [Rd]; exact ⟨ws, rfl, h2⟩⟩
        simp only [Instr.build, Sem.run_bind, hz1, Result.andThen_ok, run_underlying hF, hmap, Sem.run_pure]
        rw [hparts, h1]
        rfl
    · cases h
  · rename_i n e _ _ zero ht
    split at h
    · rename_i ti hte
      obtain ⟨z, hz1, hz2⟩ := hz _ ht
      cases hf : fillD (fun i => some (i * ti.size, ti.size)) env (zero.map .v) parts.toList with
      | none => simp [hf] at h
      | some cs =>
        simp only [hf, Option.map_some] at h
        obtain ⟨rfl, rfl⟩ := pair_inj h
        obtain ⟨ws, h1, h2⟩ := fill_sound (E := E) hg parts.toList _ z.cells _ hf hz2
        refine ⟨.agg ws, ?_, by simp only [Rd]; exact ⟨ws, rfl, h2⟩⟩
        simp only [Instr.build, Sem.run_bind, hz1, Result.andThen_ok, run_underlying ((hT.ok t _ ht).arr rfl), (hT.ok e _ hte).run_size, Sem.run_pure]
        rw [hparts, h1]
        rfl
    · cases h
  · cases h
theorem len_sound {t ty : TypeId} {dx : Option D} {d : D} {c : Prop} (h : lenD (T t) dx = some (d, c)) {x : Value} (hx : ∀ d', dx = some d' → Rd E d' x) (w : World) :
    ∃ v, (Builtin.len_ #[t] ty #[x]).run P w = .ok v w ∧ Rd E d v := by
  unfold lenD at h
  split at h <;> (try (cases h; done)) <;> split at h <;> (try (cases h; done)) <;> obtain ⟨rfl, rfl⟩ := pair_inj h <;> rename_i ht <;> have hr := hx _ rfl
  · simp only [Rd] at hr; obtain ⟨_, A, cp, rfl, _⟩ := hr
    exact ⟨_, by simp [Builtin.len_, run_underlying ((hT.ok t _ ht).slice rfl)]; rfl, by simp [Rd, goInt]⟩
  · rename_i b off n cp _ _ _ _ _
    have : ∃ A c, x = .slice A n c := by
      cases cp <;> simp only [Rd] at hr
      · obtain ⟨_, _, _, A, h, _⟩ := hr; exact ⟨A, _, h⟩
      · obtain ⟨_, A, c, h, _⟩ := hr; exact ⟨A, c, h⟩
    obtain ⟨A, c, rfl⟩ := this
    exact ⟨_, by simp [Builtin.len_, run_underlying ((hT.ok t _ ht).slice rfl)]; rfl, by simp [Rd, goInt]⟩
  · simp only [Rd] at hr; subst hr
    exact ⟨_, by simp [Builtin.len_, run_underlying ((hT.ok t _ ht).str rfl)]; rfl, by simp [Rd, goInt]⟩
  · simp only [Rd] at hr; subst hr
    exact ⟨_, by simp [Builtin.len_, run_underlying ((hT.ok t _ ht).slice rfl)]; rfl, by simp [Rd, goInt]⟩
theorem cap_sound {t ty : TypeId} {dx : Option D} {d : D} {c : Prop} (h : capV (T t) dx = some (d, c)) {x : Value} (hx : ∀ d', dx = some d' → Rd E d' x) (w : World) :
    ∃ v, (Builtin.cap_ #[t] ty #[x]).run P w = .ok v w ∧ Rd E d v := by
  unfold capV at h
  split at h <;> (try (cases h; done)) <;> split at h <;> (try (cases h; done)) <;> obtain ⟨rfl, rfl⟩ := pair_inj h <;> rename_i ht <;> have hr := hx _ rfl
  · simp only [Rd] at hr; obtain ⟨_, _, _, A, rfl, _⟩ := hr
    exact ⟨_, by simp [Builtin.cap_, run_underlying ((hT.ok t _ ht).slice rfl)]; rfl, by simp [Rd, goInt]⟩
  · simp only [Rd] at hr; subst hr
    exact ⟨_, by simp [Builtin.cap_, run_underlying ((hT.ok t _ ht).slice rfl)]; rfl, by simp [Rd, goInt]⟩
omit hT
theorem mm_sound {isMax : Bool} {dx dy : Option D} {d : D} {c : Prop} (h : mm2 isMax dx dy = some (d, c)) {x y : Value} (hx : ∀ d', dx = some d' → Rd E d' x) (hy : ∀ d', dy = some d' → Rd E d' y) (ts : Array TypeId) (ty : TypeId) (w : World) :
    ∃ v, (if isMax then Builtin.max_ ts ty #[x, y] else Builtin.min_ ts ty #[x, y]).run P w = .ok v w ∧ Rd E d v := by
  unfold mm2 at h
  split at h
  · rename_i k a l b
    split at h
    · rename_i hk; subst hk
      obtain ⟨rfl, rfl⟩ := pair_inj h
      have h1 := hx _ rfl
      have h2 := hy _ rfl
      simp only [Rd] at h1 h2
      subst h1; subst h2
      cases isMax
      · refine ⟨.int k (min a b), ?_, by simp [Rd]⟩
        simp only [Bool.false_eq_true, if_false, Builtin.min_]
        have e : (if b < a then b else a) = min a b := by split <;> omega
        simp [Builtin.min2, e]
      · refine ⟨.int k (max a b), ?_, by simp [Rd]⟩
        simp only [if_true, Builtin.max_]
        have e : (if b > a then b else a) = max a b := by split <;> omega
        simp [Builtin.max2, e]
    · cases h
  · cases h
theorem mm2_run {isMax : Bool} {dx dy d : D} {c : Prop} (h : mm2 isMax (some dx) (some dy) = some (d, c)) {x y : Value} (hx : Rd E dx x) (hy : Rd E dy y) (w : World) :
    ∃ v, (if isMax then Builtin.max2 x y else Builtin.min2 x y).run P w = .ok v w ∧ Rd E d v := by
  obtain ⟨v, h1, h2⟩ := mm_sound (P := P) h (fun d' e => by cases e; exact hx) (fun d' e => by cases e; exact hy) #[] 0 w
  refine ⟨v, ?_, h2⟩
  cases isMax <;> simpa [Builtin.max_, Builtin.min_] using h1
theorem mmL_run {isMax : Bool} {w : World} : ∀ (ds : List D) (d : D) (v : Value) (vs : List Value) (e : D) (c : Prop), mmL isMax d ds = some (e, c) → Rd E d v → RdT E ds vs →
    ∃ u, (vs.foldlM (if isMax then Builtin.max2 else Builtin.min2) v).run P w = .ok u w ∧ Rd E e u
  | [], d, v, vs, e, c, h, hd, hs => by
    simp only [mmL] at h
    obtain ⟨rfl, rfl⟩ := pair_inj h
    simp only [RdT] at hs
    subst hs
    exact ⟨v, by simp, hd⟩
  | f :: ds, d, v, vs, e, c, h, hd, hs => by
    simp only [mmL] at h
    simp only [RdT] at hs
    obtain ⟨u, r, rfl, h1, h2⟩ := hs
    split at h
    · rename_i g c' hg
      obtain ⟨z, k1, k2⟩ := mm2_run (P := P) hg hd h1 w
      obtain ⟨q, k3, k4⟩ := mmL_run ds g z r e c h k2 h2
      refine ⟨q, ?_, k4⟩
      cases isMax <;> simp at k1 k3 ⊢ <;> rw [k1] <;> simpa using k3
    · cases h
theorem mmA_run {isMax : Bool} {o : Option (List D)} {d : D} {c : Prop} (h : mmA isMax o = some (d, c)) {args : Array Value} (hr : ∀ ds, o = some ds → RdT E ds args.toList) (ts : Array TypeId) (ty : TypeId) (w : World) :
    ∃ v, (if isMax then Builtin.max_ ts ty args else Builtin.min_ ts ty args).run P w = .ok v w ∧ Rd E d v := by
  unfold mmA at h
  split at h
  · rename_i d0 ds
    have h0 := hr _ rfl
    simp only [RdT] at h0
    obtain ⟨u, r, e, h1, h2⟩ := h0
    obtain ⟨q, k3, k4⟩ := mmL_run (P := P) (w := w) ds d0 u r d c h h1 h2
    refine ⟨q, ?_, k4⟩
    cases isMax <;> simp only [Builtin.max_, Builtin.min_, e] <;> simpa using k3
  · cases h
end
end Go.VD
end
section
namespace Go.VD
set_option linter.unusedVariables false
set_option linter.unusedSimpArgs false
section
variable {P : Program} {T : Tbl} (hT : TblOk P T) {E : Ctx}
theorem intO_bound {env : Env} {ev : Operand → Value} (hg : ∀ x d, opnd env x = some d → Rd E d (ev x)) (x : Option Operand) (b : Option Int) (h : intO env x = some b) : BoundV b (x.map ev) := by
  cases x with
  | none => simp only [intO] at h; injection h with h; subst h; simp [BoundV]
  | some x =>
    simp only [intO] at h
    split at h
    · rename_i k i hgx
      injection h with h; subst h
      have := hg x _ hgx
      simp only [Rd] at this
      simp only [Option.map_some, BoundV]
      exact ⟨k, this⟩
    · cases h
theorem getAll_rd {env : Env} {ev : Operand → Value} (hg : ∀ x d, opnd env x = some d → Rd E d (ev x)) : ∀ (xs : List Operand) (ds : List D), getAll env xs = some ds → RdT E ds (xs.map ev)
  | [], ds, h => by simp only [getAll] at h; injection h with h; subst h; simp [RdT]
  | x :: xs, ds, h => by
    simp only [getAll] at h
    split at h
    · rename_i d ds' h1 h2
      injection h with h; subst h
      simp only [List.map_cons, RdT]
      exact ⟨_, _, rfl, hg x d h1, getAll_rd hg xs ds' h2⟩
    · cases h
theorem run_forIn_all {α : Type} (P : Program) (w : World) (b : α → Bool) : ∀ (l : List α) (step : α → Option Bool × Unit → Sem (ForInStep (Option Bool × Unit))),
    (∀ f ∈ l, (step f (none, ())).run P w = .ok (if b f then .yield (none, ()) else .done (some false, ())) w) → (forIn l (none, ()) step).run P w = .ok (if l.all b then (none, ()) else (some false, ())) w
  | [], step, h => by simp
  | f :: l, step, h => by
    rw [List.forIn_cons]
    simp only [Sem.run_bind, h f (by simp), Result.andThen_ok]
    cases hb : b f with
    | true => simpa [hb] using run_forIn_all P w b l step fun g hg => h g (by simp [hg])
    | false => simp [hb]
theorem bytes_beq (x y : ByteArray) : (x == y) = (x.toList == y.toList) ∨ True := .inr trivial
include hT
theorem eqFs_sound {n : Nat} {us vs : Array Value} {xs ys : List D} (hu : RdL E xs us.toList) (hv : RdL E ys vs.toList)
    (ih : ∀ (t : TypeId) (x y : D) (u v : Value) (b : Bool) (c : Prop), eqD T n (T t) x y = some (b, c) → c → Rd E x u → Rd E y v → ∀ d, n ≤ d → ∀ w, (Op.equalIn d t u v).run P w = .ok b w) {d : Nat} (hd : n ≤ d) (w : World) :
    ∀ (fs : List (Nat × TypeId)) (b : Bool) (c : Prop), eqFs (eqD T n) T xs ys fs = some (b, c) → c →
      ∃ bs : Nat × TypeId → Bool, b = fs.all bs ∧ ∀ f ∈ fs, ((part f.2 us f.1).run P w).andThen (fun a w' => ((part f.2 vs f.1).run P w').andThen fun a' w'' => (Op.equalIn d f.2 a a').run P w'') = .ok (bs f) w
  | [], b, c, h, hc => by
    simp only [eqFs] at h
    obtain ⟨rfl, rfl⟩ := pair_inj h
    exact ⟨fun _ => true, rfl, by simp⟩
  | (off, ft) :: r, b, c, h, hc => by
    simp only [eqFs] at h
    split at h
    · rename_i ti hti
      split at h
      · rename_i b1 c1 b2 c2 h1 h2
        obtain ⟨rfl, rfl⟩ := pair_inj h
        obtain ⟨⟨hc1, hc2⟩, hc3, hc4⟩ := hc
        obtain ⟨a1, e1, r1⟩ := part_sound (P := P) (hT.ok ft ti hti) hu hc1 w
        obtain ⟨a2, e2, r2⟩ := part_sound (P := P) (hT.ok ft ti hti) hv hc2 w
        have hq := ih ft _ _ a1 a2 b1 c1 (by rw [hti]; exact h1) hc3 r1 r2 d hd w
        obtain ⟨bs, hb, hall⟩ := eqFs_sound hu hv ih hd w r b2 c2 h2 hc4
        by_cases hin : (off, ft) ∈ r
        · have hbs := hall _ hin
          simp only [e1, e2, Result.andThen_ok, hq] at hbs
          have hb1 : b1 = bs (off, ft) := by injection hbs
          refine ⟨bs, by rw [List.all_cons, ← hb, hb1], fun f hf => ?_⟩
          rcases List.mem_cons.1 hf with rfl | hf
          · exact hall _ hin
          · exact hall f hf
        · refine ⟨fun f => if f = (off, ft) then b1 else bs f, ?_, fun f hf => ?_⟩
          · simp only [List.all_cons, if_true]
            congr 1
            rw [hb]
            have key : ∀ l : List (Nat × TypeId), (∀ g ∈ l, g ≠ (off, ft)) → l.all bs = l.all (fun f => if f = (off, ft) then b1 else bs f) := by
              intro l
              induction l with
              | nil => intro _; rfl
              | cons g l ihl =>
                intro hne
                simp only [List.all_cons]
                rw [if_neg (hne g (by simp)), ihl fun g' hg' => hne g' (by simp [hg'])]
            exact key r fun g hg e => hin (e ▸ hg)
          · rcases List.mem_cons.1 hf with rfl | hf
            · simp only [e1, e2, Result.andThen_ok, hq, if_true]
            · have hne : f ≠ (off, ft) := fun e => hin (e ▸ hf)
              show _ = Result.ok (if f = (off, ft) then b1 else bs f) w
              rw [if_neg hne]; exact hall f hf
      · cases h
    · cases h
theorem eqD_sound : ∀ (n : Nat) (t : TypeId) (x y : D) (u v : Value) (b : Bool) (c : Prop), eqD T n (T t) x y = some (b, c) → c → Rd E x u → Rd E y v → ∀ d, n ≤ d → ∀ w, (Op.equalIn d t u v).run P w = .ok b w
  | 0, t, x, y, u, v, b, c, h, _, _, _, _, _, _ => by simp [eqD] at h
  | n + 1, t, x, y, u, v, b, c, h, hc, hu, hv, d, hd, w => by
    obtain ⟨d, rfl⟩ : ∃ d', d = d' + 1 := ⟨d - 1, by omega⟩
    cases hti : T t with
    | none => simp [hti, eqD] at h
    | some ti =>
      have hk := hT.ok t ti hti
      simp only [hti, eqD] at h
      split at h
      · rename_i htd
        split at h
        · rename_i k a l b' hkl
          obtain ⟨rfl, rfl⟩ := pair_inj h
          simp only [Rd] at hu hv
          subst hu; subst hv
          simp [Op.equalIn, run_underlying (hk.int htd), hkl]
        · cases h
      · rename_i htd
        obtain ⟨rfl, rfl⟩ := pair_inj h
        simp only [Rd] at hu hv
        subst hu; subst hv
        simp [Op.equalIn, run_underlying (hk.bool htd)]
      · rename_i htd
        obtain ⟨rfl, rfl⟩ := pair_inj h
        simp only [Rd] at hu hv
        subst hu; subst hv
        simp [Op.equalIn, run_underlying (hk.str htd)]
      · rename_i fs xs ys htd
        simp only [Rd] at hu hv
        obtain ⟨us, rfl, hu⟩ := hu
        obtain ⟨vs, rfl, hv⟩ := hv
        obtain ⟨F, hF, hfs⟩ := hk.struct htd
        have heq := hk.eq (by simp [htd, TD.isAgg])
        simp only [eqOkB, hF, Bool.and_eq_true, Bool.not_eq_true'] at heq
        obtain ⟨⟨hnames, hheld⟩, _⟩ := heq
        obtain ⟨bs, hb, hall⟩ := eqFs_sound hT hu hv (fun t x y u v b c => eqD_sound n t x y u v b c) (d := d) (by omega) w fs b c h hc
        simp only [Op.equalIn, Sem.run_bind, run_underlying hF, Result.andThen_ok, run_program, hheld, Bool.false_eq_true, if_false]
        have hfor := run_forIn_all P w (fun f : Field => bs (f.offset, f.type)) F.toList
          (fun f __s => if f.name ≠ "_" then do
              let a ← part f.type us f.offset
              let a' ← part f.type vs f.offset
              let r ← Op.equalIn d f.type a a'
              if (!r) = true then pure (ForInStep.done (some false, ())) else pure (ForInStep.yield (none, ()))
            else pure (ForInStep.yield (none, ()))) (fun f hf => by
            have hn : f.name ≠ "_" := by
              have := List.all_eq_true.1 hnames f hf
              simpa using this
            have := hall (f.offset, f.type) (by rw [← hfs]; exact List.mem_map.2 ⟨f, hf, rfl⟩)
            simp only [ne_eq, hn, not_false_eq_true, if_true, Sem.run_bind]
            cases h1 : (part f.type us f.offset).run P w with
            | ok a w1 =>
              simp only [h1, Result.andThen_ok] at this ⊢
              cases h2 : (part f.type vs f.offset).run P w1 with
              | ok a' w2 =>
                simp only [h2, Result.andThen_ok] at this ⊢
                simp only [this, Result.andThen_ok]
                cases bs (f.offset, f.type) <;> simp
              | halt => simp [h2, Result.andThen] at this
            | halt => simp [h1, Result.andThen] at this)
        rw [Array.forIn_toList] at hfor
        rw [hfor]
        have hbb : b = F.toList.all (fun f => bs (f.offset, f.type)) := by
          rw [hb, ← hfs, List.all_map]; rfl
        simp only [Result.andThen_ok]
        rw [hbb]
        cases F.toList.all (fun f => bs (f.offset, f.type)) <;> simp
      · rename_i m e xs ys htd
        simp only [Rd] at hu hv
        obtain ⟨us, rfl, hu⟩ := hu
        obtain ⟨vs, rfl, hv⟩ := hv
        have hF := hk.arr htd
        split at h
        · rename_i te hte
          obtain ⟨bs, hb, hall⟩ := eqFs_sound hT hu hv (fun t x y u v b c => eqD_sound n t x y u v b c) (d := d) (by omega) w _ b c h hc
          simp only [Op.equalIn, Sem.run_bind, run_underlying hF, Result.andThen_ok, (hT.ok e te hte).run_size]
          have hfor := run_forIn_all P w (fun i : Nat => bs (i * te.size, e)) (List.range' 0 m 1)
            (fun i __s => do
                let a ← part e us (i * te.size)
                let a' ← part e vs (i * te.size)
                let r ← Op.equalIn d e a a'
                if (!r) = true then pure (ForInStep.done (some false, ())) else pure (ForInStep.yield (none, ()))) (fun i hi => by
              have := hall (i * te.size, e) (List.mem_map.2 ⟨i, hi, rfl⟩)
              simp only [Sem.run_bind]
              cases h1 : (part e us (i * te.size)).run P w with
              | ok a w1 =>
                simp only [h1, Result.andThen_ok] at this ⊢
                cases h2 : (part e vs (i * te.size)).run P w1 with
                | ok a' w2 =>
                  simp only [h2, Result.andThen_ok] at this ⊢
                  simp only [this, Result.andThen_ok]
                  cases bs (i * te.size, e) <;> simp
                | halt => simp [h2, Result.andThen] at this
              | halt => simp [h1, Result.andThen] at this)
          rw [Std.Legacy.Range.forIn_eq_forIn_range']
          simp only [Std.Legacy.Range.size, Nat.sub_zero, Nat.add_sub_cancel, Nat.div_one]
          rw [hfor]
          have hbb : b = (List.range' 0 m 1).all (fun i => bs (i * te.size, e)) := by
            rw [hb, arrFs, List.all_map]; rfl
          simp only [Result.andThen_ok]
          rw [hbb]
          cases (List.range' 0 m 1).all (fun i => bs (i * te.size, e)) <;> simp
        · cases h
      · cases h
theorem aggEq_sound {op : BinOp} {t yt ty : TypeId} {x y : Operand} {dst : Option Tmp} {pos : String} {after : Array Edge} {guard : Option (Nat × Bool)} {env : Env} {a : Act} {d : D} {c : Prop}
    (hg : ∀ x d, opnd env x = some d → Rd E d (a.eval x)) (hia : isAggD (opnd env x) = true) (h : aggEq T op (T t) (opnd env x) (opnd env y) = some (d, c)) (hc : c) :
    ∃ v, (execOp a.eval ⟨dst, .binOp op t x y yt, ty, pos, after, guard⟩).run P E.w = .ok (.value v) E.w ∧ Rd E d v := by
  unfold aggEq at h
  split at h
  · rename_i dx dy hx hy
    have h1 := hg x _ hx
    have h2 := hg y _ hy
    have hxa : ∃ xs, dx = .agg xs := by
      rw [hx] at hia; cases dx <;> simp_all [isAggD]
    obtain ⟨xs, rfl⟩ := hxa
    have main : ∀ b c', eqD T 10 (T t) (.agg xs) dy = some (b, c') → c' → ∃ us vs, a.eval x = .agg us ∧ a.eval y = .agg vs ∧ P.eqGuardType P.depth t = false ∧ (Op.equal t (.agg us) (.agg vs)).run P E.w = .ok b E.w := by
      intro b c' he hc'
      have hrun := eqD_sound hT 10 t _ _ (a.eval x) (a.eval y) b c' he hc' h1 h2 Op.maxDepth (by decide) E.w
      cases hti : T t with
      | none => simp [hti, eqD] at he
      | some ti =>
        simp only [hti, eqD] at he
        have hag : ti.td.isAgg = true ∧ ∃ ys, dy = .agg ys := by
          split at he <;> first | (cases he; done) | contradiction | skip
          · rename_i htd hxs; exact ⟨by simp [htd, TD.isAgg], _, rfl⟩
          · rename_i htd hxs; exact ⟨by simp [htd, TD.isAgg], _, rfl⟩
        obtain ⟨hag, ys, rfl⟩ := hag
        simp only [Rd] at h1 h2
        obtain ⟨us, hu, _⟩ := h1
        obtain ⟨vs, hv, _⟩ := h2
        have heq := (hT.ok t ti hti).eq hag
        simp only [eqOkB, Bool.and_eq_true, Bool.not_eq_true'] at heq
        rw [hu, hv] at hrun
        exact ⟨us, vs, hu, hv, heq.2, hrun⟩
    split at h
    · rename_i b c' he
      obtain ⟨rfl, rfl⟩ := pair_inj h
      obtain ⟨us, vs, e1, e2, e3, e4⟩ := main b c' he hc
      exact ⟨.bool b, by simp [execOp, e1, e2, eqGuard, e3, binOp, e4], by simp [Rd]⟩
    · rename_i b c' he
      obtain ⟨rfl, rfl⟩ := pair_inj h
      obtain ⟨us, vs, e1, e2, e3, e4⟩ := main b c' he hc
      exact ⟨.bool !b, by simp [execOp, e1, e2, eqGuard, e3, binOp, e4], by simp [Rd]⟩
    · cases h
  · cases h
theorem nilCmp_sound {op : BinOp} {t yt ty : TypeId} {x y : Operand} {dst : Option Tmp} {pos : String} {after : Array Edge} {guard : Option (Nat × Bool)} {a : Act} {d : D} {c : Prop} {n cp : Nat} {A : Option Addr}
    (h : nilCmp ((T t).map (·.td)) op n = some (d, c)) (hc : c) (h1 : a.eval x = .slice A n cp) (h2 : a.eval y = .slice none 0 0) (hA : 0 < n → A.isNone = false) :
    ∃ v, (execOp a.eval ⟨dst, .binOp op t x y yt, ty, pos, after, guard⟩).run P E.w = .ok (.value v) E.w ∧ Rd E d v := by
  have go : ∀ e, (T t).map (·.td) = some (.slice e) → (op = .eql ∨ op = .neq) → (execOp a.eval ⟨dst, .binOp op t x y yt, ty, pos, after, guard⟩).run P E.w = .ok (.value (.bool (if op = .eql then A.isNone else !A.isNone))) E.w := by
    intro e htd ho
    cases hti : T t with
    | none => simp [hti] at htd
    | some ti =>
      simp [hti] at htd
      simp [execOp, h1, h2, eqGuard_at_slice, binOp_at_slice op ho ((hT.ok t ti hti).slice htd)]
  unfold nilCmp at h
  split at h
  · rename_i htd
    obtain ⟨rfl, rfl⟩ := pair_inj h
    exact ⟨_, go _ htd (.inl rfl), by simp [Rd, hA hc]⟩
  · rename_i htd
    obtain ⟨rfl, rfl⟩ := pair_inj h
    exact ⟨_, go _ htd (.inr rfl), by simp [Rd, hA hc]⟩
  · cases h
theorem opP_sound {o : Oper} {env : Env} {a : Act} {d : D} {c : Prop} (hg : ∀ x d, opnd env x = some d → Rd E d (a.eval x)) (h : opP T env o.op = some (d, c)) (hc : c) :
    ∃ v, (execOp a.eval o).run P E.w = .ok (.value v) E.w ∧ Rd E d v := by
  obtain ⟨dst, op, ty, pos, after, guard⟩ := o
  simp only at h
  cases op
  case move x =>
    simp only [opP, Option.map_eq_some_iff] at h
    obtain ⟨d', h1, h2⟩ := h
    injection h2 with h2 _; subst h2
    exact ⟨_, by simp [execOp], hg x _ h1⟩
  case assign x =>
    simp only [opP, Option.map_eq_some_iff] at h
    obtain ⟨d', h1, h2⟩ := h
    injection h2 with h2 _; subst h2
    exact ⟨_, by simp [execOp], hg x _ h1⟩
  case pick x y z =>
    obtain ⟨b, h1, h2⟩ := pick_sound h hc (fun d' e => hg x d' e) (fun d' e => hg y d' e) (fun d' e => hg z d' e)
    exact ⟨_, by simp [execOp, h1, asBool], h2⟩
  case unOp op t x =>
    simp only [opP, unD] at h
    split at h
    · rename_i u hu
      cases hz : unV op u with
      | none => simp [hz] at h
      | some z =>
        simp only [hz, Option.map_some] at h
        obtain ⟨rfl, rfl⟩ := pair_inj h
        have := hg x _ hu
        simp only [Rd] at this
        exact ⟨z, by simp [execOp, this, unV_sound hz], by simp [Rd]⟩
    · cases h
  case binOp op t x y yt =>
    simp only [opP] at h
    cases hia : isAggD (opnd env x) with
    | true =>
    rw [hia] at h
    simp only [cond_true] at h
    exact aggEq_sound hT hg hia h hc
    | false =>
    rw [hia] at h
    simp only [cond_false, binD] at h
    split at h
    · rename_i u v hu hv
      cases hz : binV ((T t).map (·.td)) op u v with
      | none => simp [hz] at h
      | some z =>
        obtain ⟨z, c'⟩ := z
        simp only [hz, Option.map_some] at h
        obtain ⟨rfl, rfl⟩ := pair_inj h
        have h1 := hg x _ hu
        have h2 := hg y _ hv
        simp only [Rd] at h1 h2
        obtain ⟨e1, e2⟩ := binV_sound hT hz hc x y E.w
        exact ⟨z, by simp [execOp, h1, h2, e1, e2], by simp [Rd]⟩
    · rename_i n xs hu hv
      have h1 := hg x _ hu
      have h2 := hg y _ hv
      simp only [Rd] at h1 h2
      obtain ⟨_, A, cp, h1, _, _, h3⟩ := h1
      exact nilCmp_sound hT h hc h1 h2 (fun h0 => by obtain ⟨ad, e, _⟩ := h3 h0; rw [e]; rfl)
    · rename_i b off n cp hu hv
      have h1 := hg x _ hu
      have h2 := hg y _ hv
      cases cp with
      | exact c0 es =>
        simp only [Rd] at h1 h2
        obtain ⟨_, h3, _, A, h1, h4⟩ := h1
        exact nilCmp_sound hT h hc h1 h2 (fun h0 => by rw [h4 (by omega)]; rfl)
      | toEnd es =>
        simp only [Rd] at h1 h2
        obtain ⟨_, A, c0, h1, h3, _, _, h4⟩ := h1
        exact nilCmp_sound hT h hc h1 h2 (fun h0 => by rw [h4 (by omega)]; rfl)
    · cases h
  case convert s t x =>
    simp only [opP, convD] at h
    split at h
    · rename_i u hu
      cases hz : convV ((T s).map (·.td)) ((T t).map (·.td)) u with
      | none => simp [hz] at h
      | some z =>
        simp only [hz, Option.map_some] at h
        obtain ⟨rfl, rfl⟩ := pair_inj h
        have := hg x _ hu
        simp only [Rd] at this
        exact ⟨z, by simp [execOp, this, convV_sound hT hz], by simp [Rd]⟩
    · cases h
  case fieldAddr s x f =>
    obtain ⟨v, h1, h2⟩ := fieldAddr_sound hT h hc (fun d' e => hg x d' e) E.w
    exact ⟨v, by simp [execOp, h1], h2⟩
  case field s x f =>
    obtain ⟨v, h1, h2⟩ := field_sound hT h hc (fun d' e => hg x d' e) E.w
    exact ⟨v, by simp [execOp, h1], h2⟩
  case indexAddr t x i =>
    obtain ⟨v, h1, h2⟩ := indexAddr_sound hT h hc (fun d' e => hg x d' e) (fun d' e => hg i d' e) E.w
    exact ⟨v, by simp [execOp, h1], h2⟩
  case index t x i =>
    obtain ⟨v, h1, h2⟩ := index_sound hT h hc (fun d' e => hg x d' e) (fun d' e => hg i d' e) E.w
    exact ⟨v, by simp [execOp, h1], h2⟩
  case load t x =>
    obtain ⟨v, h1, h2⟩ := load_sound hT h hc (fun d' e => hg x d' e)
    exact ⟨v, by simp [execOp, h1], h2⟩
  case extract x i =>
    obtain ⟨v, h1, h2⟩ := extract_sound (P := P) h (fun d' e => hg x d' e) E.w
    exact ⟨v, by simp [execOp, h1], h2⟩
  case slice t x lo hi mx =>
    obtain ⟨v, h1, h2⟩ := slice_sound hT h hc (fun d' e => hg x d' e) (intO_bound hg lo) (intO_bound hg hi) (intO_bound hg mx) E.w
    exact ⟨v, by simp [execOp, h1], h2⟩
  case build t parts =>
    obtain ⟨v, h1, h2⟩ := build_sound hT hg h E.w
    exact ⟨v, by simp only [execOp, Sem.run_bind, h1, Result.andThen_ok, Sem.run_pure], h2⟩
  case makeInterface t x =>
    simp only [opP, ifcD] at h
    split at h
    · rename_i dx hdx
      split at h
      · rename_i ti ht
        split at h
        · cases h
        · rename_i hne
          obtain ⟨rfl, rfl⟩ := pair_inj h
          obtain ⟨dd, h1, h2⟩ := (hT.ok t ti ht).und
          refine ⟨.iface t (a.eval x), ?_, by simp only [Rd]; exact ⟨_, rfl, hg x _ hdx⟩⟩
          have : ∀ ms, dd ≠ .interface ms := fun ms e => by subst e; cases htd : ti.td <;> simp_all [TD.fits]
          simp only [execOp, Instr.makeInterface, Sem.run_bind, run_underlying h1, Result.andThen_ok, Sem.run_pure]
      · cases h
    · cases h
  case makeFunc fn first caps =>
    simp only [opP, funcD] at h
    split at h
    · cases hz : getAll env (first.toList ++ caps.toList) with
      | none => simp [hz] at h
      | some ds =>
        simp only [hz, Option.map_some] at h
        obtain ⟨rfl, rfl⟩ := pair_inj h
        refine ⟨.func (.func _) (first.map a.eval) (caps.map a.eval), by simp [execOp, Instr.makeFunc]; rfl, ?_⟩
        simp only [Rd]
        exact ⟨_, _, rfl, by simp, by simpa using getAll_rd hg _ _ hz⟩
    · cases h
  case nilCheck x =>
    simp only [opP, nilCheckD] at h
    split at h
    · rename_i hx
      obtain ⟨rfl, rfl⟩ := pair_inj h
      have hr := hg x _ hx
      have hr' := hr
      simp only [Rd] at hr'
      refine ⟨a.eval x, ?_, hr⟩
      simp only [execOp]
      rw [hr'.2]; rfl
    · rename_i hx
      obtain ⟨rfl, rfl⟩ := pair_inj h
      have hr := hg x _ hx
      have hr' := hr
      simp only [Rd] at hr'
      obtain ⟨_, ad, e, _⟩ := hr'
      refine ⟨a.eval x, ?_, hr⟩
      simp only [execOp]
      rw [e]; rfl
    · cases h
  case call cl =>
    obtain ⟨callee, args, argTypes⟩ := cl
    cases callee with
    | value f => simp [opP] at h
    | invoke r m => simp [opP] at h
    | builtin b =>
      simp only [opP, callB] at h
      split at h
      · rename_i x t hargs hts
        have e1 : args = #[x] := by rw [← Array.toList_inj, hargs]
        have e2 : argTypes = #[t] := by rw [← Array.toList_inj, hts]
        subst e1; subst e2
        obtain ⟨v, h1, h2⟩ := len_sound hT (ty := ty) h (fun d' e => hg x d' e) E.w
        exact ⟨v, by simp [execOp, resolve, invoke, builtin, h1], h2⟩
      · rename_i x t hargs hts
        have e1 : args = #[x] := by rw [← Array.toList_inj, hargs]
        have e2 : argTypes = #[t] := by rw [← Array.toList_inj, hts]
        subst e1; subst e2
        obtain ⟨v, h1, h2⟩ := cap_sound hT (ty := ty) h (fun d' e => hg x d' e) E.w
        exact ⟨v, by simp [execOp, resolve, invoke, builtin, h1], h2⟩
      · rename_i x y hargs
        have e1 : args = #[x, y] := by rw [← Array.toList_inj, hargs]
        subst e1
        obtain ⟨v, h1, h2⟩ := mm_sound (P := P) h (fun d' e => hg x d' e) (fun d' e => hg y d' e) argTypes ty E.w
        simp only [if_true] at h1
        exact ⟨v, by simp [execOp, resolve, invoke, builtin, h1], h2⟩
      · rename_i x y hargs
        have e1 : args = #[x, y] := by rw [← Array.toList_inj, hargs]
        subst e1
        obtain ⟨v, h1, h2⟩ := mm_sound (P := P) h (fun d' e => hg x d' e) (fun d' e => hg y d' e) argTypes ty E.w
        simp only [Bool.false_eq_true, if_false] at h1
        exact ⟨v, by simp [execOp, resolve, invoke, builtin, h1], h2⟩
      · rename_i x y z r hargs
        obtain ⟨v, h1, h2⟩ := mmA_run (P := P) h (args := args.map a.eval) (fun ds e => by rw [Array.toList_map, hargs]; exact getAll_rd hg _ _ e) argTypes ty E.w
        simp only [if_true] at h1
        exact ⟨v, by simp [execOp, resolve, invoke, builtin, h1], h2⟩
      · rename_i x y z r hargs
        obtain ⟨v, h1, h2⟩ := mmA_run (P := P) h (args := args.map a.eval) (fun ds e => by rw [Array.toList_map, hargs]; exact getAll_rd hg _ _ e) argTypes ty E.w
        simp only [Bool.false_eq_true, if_false] at h1
        exact ⟨v, by simp [execOp, resolve, invoke, builtin, h1], h2⟩
      · cases h
  all_goals (simp [opP] at h)
omit hT
def opSlots (op : Op) : List Nat := op.operands.toList.filterMap fun | .tmp t => some t | _ => none
theorem get_of_lookup {env env' : Env} {op : Op} (h : ∀ t ∈ opSlots op, env.lookup t = env'.lookup t) (x : Operand) (hx : x ∈ op.operands.toList) : opnd env x = opnd env' x := by
  cases x with
  | tmp t => exact h t (by simp only [opSlots, List.mem_filterMap]; exact ⟨.tmp t, hx, rfl⟩)
  | const v => cases v <;> rfl
  | global g => rfl
  | func f => rfl
theorem getAll_congr {env env' : Env} : ∀ (xs : List Operand), (∀ x ∈ xs, opnd env x = opnd env' x) → getAll env xs = getAll env' xs
  | [], _ => rfl
  | x :: xs, h => by simp only [getAll, h x (by simp), getAll_congr xs fun y hy => h y (by simp [hy])]
theorem fillD_congr {env env' : Env} {place : Nat → Option (Nat × Nat)} : ∀ (ps : List (Nat × Operand)) (cs : List D), (∀ p ∈ ps, opnd env p.2 = opnd env' p.2) → fillD place env cs ps = fillD place env' cs ps
  | [], _, _ => rfl
  | (i, x) :: ps, cs, h => by
    have h0 := h (i, x) (by simp)
    simp only at h0
    simp only [fillD, h0]
    split
    · split
      · exact fillD_congr ps _ fun p hp => h p (by simp [hp])
      · rfl
    · rfl
theorem intO_congr {env env' : Env} {x : Option Operand} (h : ∀ y, x = some y → opnd env y = opnd env' y) : intO env x = intO env' x := by
  cases x with
  | none => rfl
  | some x => simp only [intO, h x rfl]
theorem opP_congr {T : Tbl} {env env' : Env} {op : Op} (h : ∀ t ∈ opSlots op, env.lookup t = env'.lookup t) : opP T env op = opP T env' op := by
  have hx := get_of_lookup h
  cases op
  case build t parts =>
    have : ∀ p ∈ parts.toList, opnd env p.2 = opnd env' p.2 := fun p hp => hx p.2 (by simp only [Op.operands, List.toList_toArray, List.mem_map]; exact ⟨p, hp, rfl⟩)
    simp only [opP, buildD, fillD_congr parts.toList _ this]
  case makeFunc fn first caps =>
    have : ∀ x ∈ first.toList ++ caps.toList, opnd env x = opnd env' x := fun x hm => hx x (by simpa [Op.operands] using hm)
    simp only [opP, funcD, getAll_congr _ this]
  case slice t x lo hi mx =>
    have e0 := hx x (by simp [Op.operands])
    have e1 : intO env lo = intO env' lo := intO_congr fun y hy => hx y (by subst hy; simp [Op.operands])
    have e2 : intO env hi = intO env' hi := intO_congr fun y hy => hx y (by subst hy; simp [Op.operands])
    have e3 : intO env mx = intO env' mx := intO_congr fun y hy => hx y (by subst hy; simp [Op.operands])
    simp only [opP, e0, e1, e2, e3]
  case call c =>
    obtain ⟨callee, args, ts⟩ := c
    cases callee with
    | value f => rfl
    | invoke r m => rfl
    | builtin b =>
      have : ∀ x ∈ args.toList, opnd env x = opnd env' x := fun x hm => hx x (by simpa [Op.operands, Call.operands] using hm)
      simp only [opP, callB]
      generalize args.toList = l at this ⊢
      generalize ts.toList = r
      split
      case h_5 => rw [getAll_congr _ this]
      case h_6 => rw [getAll_congr _ this]
      all_goals simp_all
  all_goals first
    | rfl
    | (simp only [opP]; congr 1 <;> first | rfl | exact hx _ (by simp [Op.operands]) | (congr 1 <;> first | rfl | exact hx _ (by simp [Op.operands])))
end
end Go.VD
end
