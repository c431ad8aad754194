/- Soundness, second part: slice expressions, composite literals, builtins; the theorem over all operations that touch none of the call's own blocks. -/
import Derived.Test.YthnhfkpihbjddaaVd
namespace Go.VD
set_option linter.unusedVariables false
set_option linter.unusedSimpArgs false

section
variable {P : Program} {T : Tbl} (hT : TblOk P T) {E : Ctx}

theorem hiN_none (n : Nat) : hiN n none = n := rfl
theorem hiN_some (n : Nat) (j : Int) : hiN n (some j) = j.toNat := rfl
/-- a bound of a slice expression as a value -/
def BoundV : Option Int → Option Value → Prop
  | none, none => True
  | some i, some v => ∃ k, v = .int k i
  | _, _ => False

theorem run_bounds {isSlice : Bool} {n cap : Nat} {lo hi mx : Option Int} {lv hv mv : Option Value} (h1 : BoundV lo lv) (h2 : BoundV hi hv) (h3 : BoundV mx mv) (hc : sliceC n lo hi mx) (hn : n ≤ cap) (w : World) :
    (Instr.sliceBounds isSlice n cap lv hv mv).run P w = .ok (loN lo, hiN n hi, hiN cap mx) w ∧ loN lo ≤ hiN n hi ∧ hiN n hi ≤ hiN n mx ∧ hiN n mx ≤ n := by
  obtain ⟨c1, c2, c3⟩ := hc
  have b : ∀ (i : Int) (k : IntKind) (y : Nat) (code : BoundsCode), 0 ≤ i → i ≤ y → (Instr.sliceBound (.int k i) y code).run P w = .ok i.toNat w := by
    intro i k y code h0 h1
    simp [Instr.sliceBound, asIntOf, h0, h1]
  cases lo <;> cases lv <;> simp only [BoundV] at h1 <;> cases hi <;> cases hv <;> simp only [BoundV] at h2 <;> cases mx <;> cases mv <;> simp only [BoundV] at h3
  all_goals simp only [hiN, loN, Option.isSome, reduceCtorEq, and_false] at c1 c2 c3 ⊢
  all_goals (try obtain ⟨_, rfl⟩ := h1)
  all_goals (try obtain ⟨_, rfl⟩ := h2)
  all_goals (try obtain ⟨_, rfl⟩ := h3)
  all_goals refine ⟨?_, by omega, by omega, by omega⟩
  all_goals simp only [Instr.sliceBounds, Sem.run_bind, Sem.run_pure, Result.andThen_ok]
  all_goals (try rw [b _ _ _ _ (by omega) (by omega)])
  all_goals simp only [Result.andThen_ok, Sem.run_pure, Sem.run_bind]
  all_goals (try rw [b _ _ _ _ (by omega) (by omega)])
  all_goals simp only [Result.andThen_ok, Sem.run_pure, Sem.run_bind]
  all_goals (try rw [b _ _ _ _ (by omega) (by omega)])
  all_goals simp only [Result.andThen_ok, Sem.run_pure, Sem.run_bind]

theorem segD_at {xs : List D} {ad : Addr} (h : RdAt E xs ad 0) (es n : Nat) (lo hi : Option Int) : RdAt E (segD es xs n lo hi) (ad.add (loN lo * es)) 0 := by
  cases lo <;> cases hi <;> simp only [segD, loN, Nat.zero_mul]
  · simpa [Addr.add] using h
  · have := h.take (Int.toNat ‹Int› * es); simpa [Addr.add] using this
  · exact h.drop _
  · exact (h.drop _).take _

theorem segD_nameless {xs : List D} (h : NamelessL xs) (es n : Nat) (lo hi : Option Int) : NamelessL (segD es xs n lo hi) := by
  cases lo <;> cases hi <;> simp only [segD]
  · exact h
  · exact h.take _
  · exact h.drop _
  · exact (h.drop _).take _

include hT
theorem slice_sound {t : TypeId} {lo hi mx : Option (Option Int)} {lv hv mv : Option Value} {dx : Option D} {d : D} {c : Prop} (h : sliceD T (T t) lo hi mx dx = some (d, c)) (hc : c)
    {x : Value} (hx : ∀ d', dx = some d' → Rd E d' x) (h1 : ∀ b, lo = some b → BoundV b lv) (h2 : ∀ b, hi = some b → BoundV b hv) (h3 : ∀ b, mx = some b → BoundV b mv) (w : World) :
    ∃ v, (Instr.sliceAt t x lv hv mv).run P w = .ok v w ∧ Rd E d v := by
  unfold sliceD at h
  split at h
  · rename_i n xs
    split at h
    · rename_i e _ _ _ lo hi mx ht
      split at h
      · rename_i ti hte
        obtain ⟨rfl, rfl⟩ := pair_inj h
        have hr := hx _ rfl
        simp only [Rd] at hr
        obtain ⟨hnl, A, cp, rfl, hn, hm, hA⟩ := hr
        obtain ⟨hb, e1, e2, e3⟩ := run_bounds (P := P) (isSlice := true) (h1 _ rfl) (h2 _ rfl) (h3 _ rfl) hc hn w
        have hu := run_underlying ((hT.ok t _ ht).slice rfl) w
        refine ⟨_, by
          simp only [Instr.sliceAt, Instr.slice, Sem.run_bind, hu, Result.andThen_ok, hb, (hT.ok e _ hte).run_size, Sem.run_pure]; rfl, ?_⟩
        simp only [Rd]
        refine ⟨segD_nameless hnl _ _ _ _, _, _, rfl, ?_, ?_, fun hlt => ?_⟩
        · cases mx <;> simp only [hiN_none, hiN_some] at e2 e3 ⊢ <;> omega
        · cases mx <;> simp only [hiN_none, hiN_some] at e2 e3 ⊢ <;> omega
        · have h0 : 0 < n := by omega
          obtain ⟨ad, rfl, hs, ha⟩ := hA h0
          have hne : ¬ hiN cp mx = loN lo := by cases mx <;> simp only [hiN_none, hiN_some] at e2 e3 ⊢ <;> omega
          rw [if_neg hne]
          exact ⟨_, rfl, by rw [block_add]; exact hs, segD_at ha _ _ _ _⟩
      · cases h
    · cases h
  · rename_i b off n cp
    split at h
    · rename_i e _ _ _ lo hi mx ht
      split at h
      · rename_i ti hte
        obtain ⟨rfl, rfl⟩ := pair_inj h
        obtain ⟨hcs, hes⟩ := hc
        have hr := hx _ rfl
        have hu := run_underlying ((hT.ok t _ ht).slice rfl) w
        have key : b < E.H.length ∧ ∃ A cap, x = .slice A n cap ∧ n ≤ cap ∧ cap ≤ maxLen ∧ (0 < cap → A = some ⟨(E.ρ b).1, off, none⟩) ∧ (match cp with | .exact c _ => cap = c | .toEnd es => off + cap * es = (E.ρ b).2) := by
          cases cp with
          | exact c _ => simp only [Rd] at hr; obtain ⟨h1, h2, h3, A, h4, h5⟩ := hr; exact ⟨h1, A, c, h4, h2, h3, h5, rfl⟩
          | toEnd es => simp only [Rd] at hr; obtain ⟨h1, A, c, h4, h2, h3, h6, h5⟩ := hr; exact ⟨h1, A, c, h4, h2, h3, h5, h6⟩
        obtain ⟨hb, A, cap, rfl, hn, hm, hA, hcap⟩ := key
        obtain ⟨hbd, e1, e2, e3⟩ := run_bounds (P := P) (isSlice := true) (h1 _ rfl) (h2 _ rfl) (h3 _ rfl) hcs hn w
        refine ⟨_, by
          simp only [Instr.sliceAt, Instr.slice, Sem.run_bind, hu, Result.andThen_ok, hbd, (hT.ok e _ hte).run_size, Sem.run_pure]; rfl, ?_⟩
        have haddr : ∀ m, loN lo ≤ m → m ≤ cap → 0 < m - loN lo → (if m = loN lo then A else A.map (·.add (loN lo * ti.size))) = some ⟨(E.ρ b).1, off + loN lo * ti.size, none⟩ := by
          intro m hm1 hm2 hm3
          rw [if_neg (by omega), hA (by omega)]
          simp only [Option.map_some]
          unfold Addr.add; split
          · rename_i h0; rw [h0]; rfl
          · rfl
        cases mx with
        | none =>
          simp only [hiN_none, hiN_some] at e2 e3 haddr ⊢
          cases cp with
          | exact c es =>
            simp only at hcap; subst hcap
            simp only [capD, Rd]
            exact ⟨hb, by omega, by omega, _, rfl, haddr cap (by omega) (Nat.le_refl _)⟩
          | toEnd es =>
            simp only at hcap hes; subst hes
            simp only [capD, Rd]
            refine ⟨hb, _, _, rfl, by omega, by omega, ?_, haddr cap (by omega) (Nat.le_refl _)⟩
            have : loN lo * ti.size + (cap - loN lo) * ti.size = cap * ti.size := by rw [← Nat.add_mul]; congr 1; omega
            omega
        | some m =>
          simp only [hiN_none, hiN_some] at e2 e3 haddr ⊢
          have e4 : m.toNat ≤ cap := by omega
          cases cp with
          | exact c es =>
            simp only [capD, Rd]
            exact ⟨hb, by omega, by omega, _, rfl, haddr m.toNat (by omega) e4⟩
          | toEnd es =>
            simp only [capD, Rd]
            exact ⟨hb, by omega, by omega, _, rfl, haddr m.toNat (by omega) e4⟩
      · cases h
    · cases h
  · rename_i b off
    split at h
    · rename_i m e _ _ _ lo hi ht
      split at h
      · rename_i ti hte
        obtain ⟨rfl, rfl⟩ := pair_inj h
        have hr := hx _ rfl
        simp only [Rd] at hr
        obtain ⟨hb, rfl⟩ := hr
        obtain ⟨hcs, hml⟩ := hc
        obtain ⟨hbd, e1, e2, e3⟩ := run_bounds (P := P) (isSlice := false) (h1 _ rfl) (h2 _ rfl) (h3 _ rfl) hcs (Nat.le_refl _) w
        have hu := run_underlying ((hT.ok t _ ht).arr rfl) w
        refine ⟨_, by
          simp only [Instr.sliceAt, Sem.run_bind, hu, Result.andThen_ok, Instr.sureAddr, hbd, (hT.ok e _ hte).run_size, Sem.run_pure]; rfl, ?_⟩
        simp only [hiN_none, hiN_some] at e2 e3
        simp only [Rd]
        refine ⟨hb, by omega, by omega, _, rfl, fun h0 => ?_⟩
        rw [if_neg (by rw [hiN_none]; omega)]
        unfold Addr.add; split
        · rename_i h0; rw [h0]; rfl
        · rfl
      · cases h
    · cases h
  · rename_i s
    split at h
    · rename_i lo hi ht
      obtain ⟨rfl, rfl⟩ := pair_inj h
      have hr := hx _ rfl
      simp only [Rd] at hr
      subst hr
      obtain ⟨hbd, e1, e2, e3⟩ := run_bounds (P := P) (isSlice := false) (h1 _ rfl) (h2 _ rfl) (h3 _ rfl) hc (Nat.le_refl _) w
      have hu := run_underlying ((hT.ok t _ ht).str rfl) w
      have hmv : mv = none := by have := h3 _ rfl; cases mv <;> simp_all [BoundV]
      subst hmv
      refine ⟨_, by
        simp only [Instr.sliceAt, Instr.slice, Sem.run_bind, hu, Result.andThen_ok, hbd, Sem.run_pure, Option.isSome, Bool.false_eq_true, if_false]; rfl, ?_⟩
      simp only [Rd]
    · cases h
  · split at h
    · rename_i e _ _ _ lo hi mx ht
      split at h
      · rename_i ti hte
        obtain ⟨rfl, rfl⟩ := pair_inj h
        have hr := hx _ rfl
        simp only [Rd] at hr
        subst hr
        obtain ⟨hbd, e1, e2, e3⟩ := run_bounds (P := P) (isSlice := true) (h1 _ rfl) (h2 _ rfl) (h3 _ rfl) hc (Nat.le_refl _) w
        have hu := run_underlying ((hT.ok t _ ht).slice rfl) w
        refine ⟨_, by
          simp only [Instr.sliceAt, Instr.slice, Sem.run_bind, hu, Result.andThen_ok, hbd, (hT.ok e _ hte).run_size, Sem.run_pure]; rfl, ?_⟩
        simp only [Rd]
        cases mx with
        | none =>
          simp only [hiN_none, hiN_some] at e2 e3 ⊢
          have a1 : hiN 0 hi = 0 := by omega
          have a2 : loN lo = 0 := by omega
          simp [a1, a2]
        | some m =>
          simp only [hiN_none, hiN_some] at e2 e3 ⊢
          have a1 : hiN 0 hi = 0 := by omega
          have a2 : loN lo = 0 := by omega
          have a3 : m.toNat = 0 := by omega
          simp [a1, a2, a3]
      · cases h
    · cases h
  · cases h
omit hT

theorem cellsD_rd {d : D} {ys : List D} (h : cellsD d = some ys) {x : Value} (hx : Rd E d x) : RdL E ys x.cells.toList := by
  have one : ∀ d x, Rd E d x → x.oneCell' = true → x.cells.toList = [x] → RdL E [d] x.cells.toList := fun d x h1 h2 h3 => by
    rw [h3]; simp only [RdL]; exact ⟨x, [], rfl, h2, h1, rfl⟩
  cases d with
  | v z =>
    simp only [cellsD] at h
    split at h
    case isFalse => cases h
    rename_i hz
    injection h with h; subst h
    have hx' := hx
    simp only [Rd] at hx; subst hx
    refine one _ _ hx' hz ?_
    cases x <;> simp_all [Value.cells, Value.oneCell']
  | ro n xs =>
    simp only [cellsD] at h; injection h with h; subst h
    have hx' := hx
    simp only [Rd] at hx; obtain ⟨_, A, c, rfl, _⟩ := hx
    exact one _ _ hx' rfl rfl
  | rp xs j =>
    simp only [cellsD] at h; injection h with h; subst h
    have hx' := hx
    simp only [Rd] at hx; obtain ⟨_, A, rfl, _⟩ := hx
    exact one _ _ hx' rfl rfl
  | sl b off n c =>
    simp only [cellsD] at h; injection h with h; subst h
    have hx' := hx
    cases c <;> simp only [Rd] at hx
    · obtain ⟨_, _, _, A, rfl, _⟩ := hx
      exact one _ _ hx' rfl rfl
    · obtain ⟨_, A, c, rfl, _⟩ := hx
      exact one _ _ hx' rfl rfl
  | ptr b off =>
    simp only [cellsD] at h; injection h with h; subst h
    have hx' := hx
    simp only [Rd] at hx; obtain ⟨_, rfl⟩ := hx
    exact one _ _ hx' rfl rfl
  | agg xs =>
    simp only [cellsD] at h; injection h with h; subst h
    simp only [Rd] at hx; obtain ⟨us, rfl, hl⟩ := hx
    exact hl
  | tup xs => simp [cellsD] at h
  | ifc t d =>
    simp only [cellsD] at h; injection h with h; subst h
    have hx' := hx
    simp only [Rd] at hx; obtain ⟨y, rfl, _⟩ := hx
    exact one _ _ hx' rfl rfl
  | fn f k caps =>
    simp only [cellsD] at h; injection h with h; subst h
    have hx' := hx
    simp only [Rd] at hx; obtain ⟨fs, us, rfl, _⟩ := hx
    exact one _ _ hx' rfl rfl

theorem setAll_length : ∀ (ys : List D) (cs : List D) (off : Nat), (setAll cs off ys).length = cs.length
  | [], cs, off => rfl
  | y :: ys, cs, off => by simp [setAll, setAll_length ys]
theorem setAll_rd : ∀ (ys : List D) (us : List Value) (cs : List D) (vs : Array Value) (off k : Nat), RdL E ys us → RdL E cs vs.toList →
    RdL E (setAll cs (off + k) ys) ((us.zipIdx k).foldl (fun cs (p : Value × Nat) => cs.setIfInBounds (off + p.2) p.1) vs).toList
  | [], us, cs, vs, off, k, h, hcs => by
    simp only [RdL] at h; subst h
    simpa [setAll] using hcs
  | y :: ys, us, cs, vs, off, k, h, hcs => by
    simp only [RdL] at h
    obtain ⟨u, r, rfl, ho, hd, hr⟩ := h
    simp only [setAll, List.zipIdx_cons, List.foldl_cons]
    have := setAll_rd ys r (cs.set (off + k) y) (vs.setIfInBounds (off + k) u) off (k + 1) hr (by
      rw [Array.toList_setIfInBounds]; exact hcs.set _ _ (off + k) y u ho hd)
    rwa [← Nat.add_assoc] at this

end
end Go.VD
