import Derived.Test.YtfleadelfklenaaDoorZBc21
import Derived.Test.YtfleadelfklenaaDoorZBc12
section
namespace Go.Proofs.YtfleadelfklenaaDoor
open Go.VD
set_option linter.unusedVariables false
set_option linter.unusedSimpArgs false
set_option maxRecDepth 100000
theorem run_first {α : Type} [Inhabited α] {E : Dg → α → Int} {S : Dg → α → Dg} : ∀ (l : List α) (e : Nat → Int) (G : Nat → Dg) (f : Bool), (∀ i, i < l.length → E (G i) (l.getD i default) = e i) → (∀ i, i < l.length → e i = 0 → S (G i) (l.getD i default) = G (i + 1)) →
    (runA E S l (G 0) f).2.2 = firstE e l.length ∧ (firstE e l.length = 0 → (runA E S l (G 0) f).1 = G l.length)
  | [], e, G, f, h1, h2 => ⟨rfl, fun _ => rfl⟩
  | x :: r, e, G, f, h1, h2 => by
    have a1 := h1 0 (by simp)
    have a2 := h2 0 (by simp)
    simp only [List.getD_cons_zero] at a1 a2
    obtain ⟨i1, i2⟩ := run_first r (fun i => e (i + 1)) (fun i => G (i + 1)) false (fun i hi => by
      have := h1 (i + 1) (by simpa using hi); rwa [List.getD_cons_succ] at this) (fun i hi => by
      have := h2 (i + 1) (by simpa using hi); rwa [List.getD_cons_succ] at this)
    have hsplit : ∀ n, firstE e (n + 1) = orE (e 0) (firstE (fun i => e (i + 1)) n) := by
      intro n
      induction n with
      | zero => simp only [firstE, orE, beq_self_eq_true, cond_true]; cases h : (e 0 == 0) <;> simp_all
      | succ n ih =>
        rw [show firstE e (n + 1 + 1) = bif firstE e (n + 1) == 0 then e (n + 1) else firstE e (n + 1) from rfl, ih]
        simp only [orE, firstE]
        cases h : (e 0 == 0)
        · simp only [cond_false, h]
        · simp only [cond_true]
    rw [List.length_cons, hsplit]
    simp only [runA, a1]
    cases h : (e 0 == 0)
    · rw [beq_eq_false_iff_ne] at h
      rw [cond_false, orE_ne h]
      exact ⟨rfl, fun h0 => absurd h0 h⟩
    · rw [beq_iff_eq] at h
      rw [cond_true, a2 h, h, orE_z]
      exact ⟨i1, i2⟩
def mkEls (k : ByteArray) (l : List ByteArray) (i : Nat) : List El := (List.range i).map fun j => ⟨l.getD j default, k, (j : Int)⟩
theorem mkEls_names (k : ByteArray) (l : List ByteArray) (i : Nat) (h : i ≤ l.length) : (mkEls k l i).map El.n = l.take i := by
  unfold mkEls
  rw [List.map_map]
  apply List.ext_getElem
  · simp; omega
  · intro j h1 h2
    have : j < l.length := by simp at h1; omega
    simp [this]
theorem mkEls_succ (k : ByteArray) (l : List ByteArray) (i : Nat) : mkEls k l (i + 1) = mkEls k l i ++ [⟨l.getD i default, k, (i : Int)⟩] := by
  unfold mkEls; rw [List.range_succ, List.map_append]; rfl
theorem sE_comm (a b : ByteArray) : sE a b = sE b a := by
  unfold sE; rw [Bool.eq_iff_iff, beq_iff_eq, beq_iff_eq]; exact eq_comm
theorem hasN_any (l : List ByteArray) (s : ByteArray) : hasN l s = l.any fun x => sE x s := by
  unfold hasN
  rw [Bool.eq_iff_iff, List.any_eq_true, List.any_eq_true]
  constructor
  · rintro ⟨i, hi, h⟩
    exact ⟨_, getD_mem (List.mem_range.1 hi), h⟩
  · rintro ⟨x, hx, h⟩
    obtain ⟨i, hi, rfl⟩ := List.getElem_of_mem hx
    refine ⟨i, List.mem_range.2 hi, ?_⟩
    rw [List.getD_eq_getElem?_getD, List.getElem?_eq_getElem hi]; exact h
theorem hasEl_names (l : List El) (s : ByteArray) : hasEl l s = hasN (l.map El.n) s := by
  rw [hasN_any]
  unfold hasEl
  rw [List.any_map]
  congr 1
  funext e
  exact sE_comm _ _
theorem entE_nmd (l : List El) (names : List ByteArray) (s : ByteArray) (n : Nat) (limit : Nat) (h : l.map El.n = names) (hn : n < limit) : entE l s (n : Int) (limit : Int) = nmdS names s := by
  unfold entE nmdS
  rw [hasEl_names, h, beq_false_of_ne (by omega : (n : Int) ≠ (limit : Int)), cond_false]
theorem entS_zero (l : List El) (k s : ByteArray) (n limit : Int) (h : entE l s n limit = 0) : entS l k s n limit = l ++ [⟨s, k, n⟩] := by
  unfold entS; rw [h]; rfl
def G1 (s : Stn) (i : Nat) : Dg := ⟨⟨⟨[]⟩⟩, s.bu.take i, [], [], [], mkEls kBus s.bu i⟩
def G2 (s : Stn) (i : Nat) : Dg := ⟨⟨⟨[]⟩⟩, s.bu, s.li.take i, [], [], mkEls kBus s.bu s.bu.length ++ mkEls kLine (s.li.map Lin.n) i⟩
def G3 (s : Stn) (i : Nat) : Dg := ⟨⟨⟨[]⟩⟩, s.bu, s.li, s.so.take i, [], (mkEls kBus s.bu s.bu.length ++ mkEls kLine (s.li.map Lin.n) s.li.length) ++ mkEls kSource (s.so.map Src.n) i⟩
def G4 (s : Stn) (i : Nat) : Dg := ⟨⟨⟨[]⟩⟩, s.bu, s.li, s.so, s.ba.take i, ((mkEls kBus s.bu s.bu.length ++ mkEls kLine (s.li.map Lin.n) s.li.length) ++ mkEls kSource (s.so.map Src.n) s.so.length) ++ mkEls kBay (s.ba.map Bay.n) i⟩
theorem take_getD {α : Type} [Inhabited α] (l : List α) (i : Nat) (h : i < l.length) : l.take (i + 1) = l.take i ++ [l.getD i default] := by
  have := take_next l (fun x => x) i h
  simpa using this
theorem map_getD {α : Type} [Inhabited α] (l : List α) (f : α → ByteArray) (i : Nat) (h : i < l.length) : (l.map f).getD i default = f (l.getD i default) := by
  simp [List.getD_eq_getElem?_getD, List.getElem?_eq_getElem h]
theorem G1_names (s : Stn) (i : Nat) (h : i ≤ s.bu.length) : (G1 s i).es.map El.n = nm3 s i 0 0 0 := by
  simp only [G1, mkEls_names _ _ _ h, nm3, nm2, nm1, List.take_zero, List.map_nil, List.append_nil]
theorem G2_names (s : Stn) (i : Nat) (h : i ≤ s.li.length) : (G2 s i).es.map El.n = nm3 s s.bu.length i 0 0 := by
  simp only [G2, List.map_append, mkEls_names _ _ _ (Nat.le_refl s.bu.length), mkEls_names kLine (s.li.map Lin.n) i (by simpa using h), nm3, nm2, nm1, List.take_zero, List.map_nil, List.append_nil, List.map_take]
theorem G3_names (s : Stn) (i : Nat) (h : i ≤ s.so.length) : (G3 s i).es.map El.n = nm3 s s.bu.length s.li.length i 0 := by
  simp only [G3, List.map_append, mkEls_names _ _ _ (Nat.le_refl s.bu.length), mkEls_names kLine (s.li.map Lin.n) s.li.length (by simp), mkEls_names kSource (s.so.map Src.n) i (by simpa using h), nm3, nm2, nm1, List.take_zero, List.map_nil, List.append_nil, List.map_take]
theorem G4_names (s : Stn) (i : Nat) (h : i ≤ s.ba.length) : (G4 s i).es.map El.n = nm3 s s.bu.length s.li.length s.so.length i := by
  simp only [G4, List.map_append, mkEls_names _ _ _ (Nat.le_refl s.bu.length), mkEls_names kLine (s.li.map Lin.n) s.li.length (by simp), mkEls_names kSource (s.so.map Src.n) s.so.length (by simp), mkEls_names kBay (s.ba.map Bay.n) i (by simpa using h), nm3, nm2, nm1, List.map_take]
theorem step1 (s : Stn) (h : cntS s = true) : (∀ i, i < s.bu.length → buE (G1 s i) (s.bu.getD i default) = e1S s i) ∧ (∀ i, i < s.bu.length → e1S s i = 0 → buS (G1 s i) (s.bu.getD i default) = G1 s (i + 1)) := by
  have hc : s.bu.length ≤ 4 := by unfold cntS at h; simp at h; omega
  have e : ∀ i, i < s.bu.length → buE (G1 s i) (s.bu.getD i default) = e1S s i := fun i hi => by
    unfold buE e1S
    rw [show (G1 s i).bu.length = i by simp only [G1, List.length_take]; omega]
    exact entE_nmd _ _ _ i 4 (G1_names s i (by omega)) (by omega)
  refine ⟨e, fun i hi h0 => ?_⟩
  have hE : buE (G1 s i) (s.bu.getD i default) = 0 := (e i hi).trans h0
  have hl : (G1 s i).bu.length = i := by simp only [G1, List.length_take]; omega
  unfold buS
  rw [hE, entS_zero _ _ _ _ _ (show entE _ _ _ _ = 0 from hE), hl]
  simp only [G1, mkEls_succ, take_getD _ _ hi, beq_self_eq_true, cond_true]
theorem step2 (s : Stn) (h : cntS s = true) : (∀ i, i < s.li.length → liE (G2 s i) (s.li.getD i default) = e2S s i) ∧ (∀ i, i < s.li.length → e2S s i = 0 → liS (G2 s i) (s.li.getD i default) = G2 s (i + 1)) := by
  have hc : s.li.length ≤ 6 := by unfold cntS at h; simp at h; omega
  have hl : ∀ i, i < s.li.length → (G2 s i).li.length = i := fun i hi => by simp only [G2, List.length_take]; omega
  have e : ∀ i, i < s.li.length → liE (G2 s i) (s.li.getD i default) = e2S s i := fun i hi => by
    unfold liE e2S
    rw [hl i hi, show entE (G2 s i).es (s.li.getD i default).n (i : Int) 6 = nmdS (nm3 s s.bu.length i 0 0) (s.li.getD i default).n from entE_nmd _ _ _ i 6 (G2_names s i (by omega)) (by omega)]
  refine ⟨e, fun i hi h0 => ?_⟩
  have hE : liE (G2 s i) (s.li.getD i default) = 0 := (e i hi).trans h0
  have hen : entE (G2 s i).es (s.li.getD i default).n ((G2 s i).li.length : Int) 6 = 0 := by
    unfold liE orE at hE
    cases hq : (entE (G2 s i).es (s.li.getD i default).n ((G2 s i).li.length : Int) 6 == 0)
    · rw [hq, cond_false] at hE; exact hE
    · exact beq_iff_eq.1 hq
  unfold liS
  rw [hE, entS_zero _ _ _ _ _ hen, hl i hi]
  simp only [G2, mkEls_succ, take_getD _ _ hi, map_getD _ Lin.n _ hi, List.append_assoc, beq_self_eq_true, cond_true]
theorem step3 (s : Stn) (h : cntS s = true) : (∀ i, i < s.so.length → soE (G3 s i) (s.so.getD i default) = e3S s i) ∧ (∀ i, i < s.so.length → e3S s i = 0 → soS (G3 s i) (s.so.getD i default) = G3 s (i + 1)) := by
  have hc : s.so.length ≤ 4 := by unfold cntS at h; simp at h; omega
  have hl : ∀ i, i < s.so.length → (G3 s i).so.length = i := fun i hi => by simp only [G3, List.length_take]; omega
  have e : ∀ i, i < s.so.length → soE (G3 s i) (s.so.getD i default) = e3S s i := fun i hi => by
    unfold soE e3S
    rw [hl i hi, show entE (G3 s i).es (s.so.getD i default).n (i : Int) 4 = nmdS (nm3 s s.bu.length s.li.length i 0) (s.so.getD i default).n from entE_nmd _ _ _ i 4 (G3_names s i (by omega)) (by omega)]
  refine ⟨e, fun i hi h0 => ?_⟩
  have hE : soE (G3 s i) (s.so.getD i default) = 0 := (e i hi).trans h0
  have hen : entE (G3 s i).es (s.so.getD i default).n ((G3 s i).so.length : Int) 4 = 0 := by
    unfold soE orE at hE
    cases hq : (entE (G3 s i).es (s.so.getD i default).n ((G3 s i).so.length : Int) 4 == 0)
    · rw [hq, cond_false] at hE; exact hE
    · exact beq_iff_eq.1 hq
  unfold soS
  rw [hE, entS_zero _ _ _ _ _ hen, hl i hi]
  simp only [G3, mkEls_succ, take_getD _ _ hi, map_getD _ Src.n _ hi, List.append_assoc, beq_self_eq_true, cond_true]
theorem plcB_take (l : List Bay) (i : Nat) (kind of end_ : Int) (h : i ≤ l.length) : plcB (l.take i) i kind of end_ = plcB l i kind of end_ := by
  unfold plcB
  congr 1
  rw [Bool.eq_iff_iff, List.any_eq_true, List.any_eq_true]
  have e : ∀ j, j < i → (l.take i).getD j default = l.getD j default := fun j hj => by
    simp only [List.getD_eq_getElem?_getD, List.getElem?_take, if_pos hj]
  constructor
  · rintro ⟨j, hj, h1⟩; rw [e j (List.mem_range.1 hj)] at h1; exact ⟨j, hj, h1⟩
  · rintro ⟨j, hj, h1⟩; refine ⟨j, hj, ?_⟩; rw [e j (List.mem_range.1 hj)]; exact h1
theorem step4 (s : Stn) (h : cntS s = true) : (∀ i, i < s.ba.length → baE (G4 s i) (s.ba.getD i default) = e4S s i) ∧ (∀ i, i < s.ba.length → e4S s i = 0 → baS (G4 s i) (s.ba.getD i default) = G4 s (i + 1)) := by
  have hc : s.ba.length ≤ 16 := by unfold cntS at h; simp at h; omega
  have hl : ∀ i, i < s.ba.length → (G4 s i).ba.length = i := fun i hi => by simp only [G4, List.length_take]; omega
  have e : ∀ i, i < s.ba.length → baE (G4 s i) (s.ba.getD i default) = e4S s i := fun i hi => by
    unfold baE e4S
    rw [hl i hi, show entE (G4 s i).es (s.ba.getD i default).n (i : Int) 16 = nmdS (nm3 s s.bu.length s.li.length s.so.length i) (s.ba.getD i default).n from entE_nmd _ _ _ i 16 (G4_names s i (by omega)) (by omega)]
    unfold bayErr
    rw [show (G4 s i).ba = s.ba.take i from rfl, plcB_take _ _ _ _ _ (by omega)]
    rfl
  refine ⟨e, fun i hi h0 => ?_⟩
  have hE : baE (G4 s i) (s.ba.getD i default) = 0 := (e i hi).trans h0
  have hen : entE (G4 s i).es (s.ba.getD i default).n ((G4 s i).ba.length : Int) 16 = 0 := by
    unfold baE orE at hE
    cases hq : (entE (G4 s i).es (s.ba.getD i default).n ((G4 s i).ba.length : Int) 16 == 0)
    · rw [hq, cond_false] at hE; exact hE
    · exact beq_iff_eq.1 hq
  unfold baS
  rw [hE, entS_zero _ _ _ _ _ hen, hl i hi]
  simp only [G4, mkEls_succ, take_getD _ _ hi, map_getD _ Bay.n _ hi, List.append_assoc, beq_self_eq_true, cond_true]
theorem G12 (s : Stn) : G1 s s.bu.length = G2 s 0 := by
  simp only [G1, G2, List.take_length, List.take_zero, mkEls, List.range_zero, List.map_nil, List.append_nil]
theorem G23 (s : Stn) : G2 s s.li.length = G3 s 0 := by
  simp only [G2, G3, List.take_length, List.take_zero, show ∀ k l, mkEls k l 0 = [] from fun _ _ => rfl, List.append_nil]
theorem G34 (s : Stn) : G3 s s.so.length = G4 s 0 := by
  simp only [G3, G4, List.take_length, List.take_zero, show ∀ k l, mkEls k l 0 = [] from fun _ _ => rfl, List.append_nil]
theorem chk_eq (s : Stn) : chkP s = chkS s := by
  unfold chkP chkS
  cases hn : nameS s.n with
  | false => rfl
  | true =>
    cases hc : cntS s with
    | false => rfl
    | true =>
      simp only [cond_true]
      obtain ⟨a1, b1⟩ := run_first s.bu (e1S s) (G1 s) false (step1 s hc).1 (step1 s hc).2
      obtain ⟨a2, b2⟩ := run_first s.li (e2S s) (G2 s) false (step2 s hc).1 (step2 s hc).2
      obtain ⟨a3, b3⟩ := run_first s.so (e3S s) (G3 s) false (step3 s hc).1 (step3 s hc).2
      obtain ⟨a4, b4⟩ := run_first s.ba (e4S s) (G4 s) false (step4 s hc).1 (step4 s hc).2
      have h1 : (k1S s).2.2 = firstE (e1S s) s.bu.length := a1
      unfold elsP elsE
      rw [h1]
      by_cases z1 : firstE (e1S s) s.bu.length = 0
      · rw [z1, orE_z, orE_z]
        have s1 : (k1S s).1 = G2 s 0 := (b1 z1).trans (G12 s)
        have h2 : (k2S s).2.2 = firstE (e2S s) s.li.length := by unfold k2S; rw [s1]; exact a2
        rw [h2]
        by_cases z2 : firstE (e2S s) s.li.length = 0
        · rw [z2, orE_z, orE_z]
          have s2 : (k2S s).1 = G3 s 0 := by unfold k2S; rw [s1]; exact (b2 z2).trans (G23 s)
          have h3 : (k3S s).2.2 = firstE (e3S s) s.so.length := by unfold k3S; rw [s2]; exact a3
          rw [h3]
          by_cases z3 : firstE (e3S s) s.so.length = 0
          · rw [z3, orE_z, orE_z]
            have s3 : (k3S s).1 = G4 s 0 := by unfold k3S; rw [s2]; exact (b3 z3).trans (G34 s)
            unfold k4S; rw [s3]; exact a4
          · rw [orE_ne z3, orE_ne z3]
        · rw [orE_ne z2, orE_ne z2]
      · rw [orE_ne z1, orE_ne z1]
def ent_pcheck : Ent := ent1 fun s => .int .i64 (chkS s)
theorem ent_pcheck_ok : EntOk Tryd.prog 14 ent_pcheck := ent1_of _ _ fun s h => by
  rw [← chk_eq]; exact pcheck_pure s h
end Go.Proofs.YtfleadelfklenaaDoor
end
section
namespace Go.Proofs.YtfleadelfklenaaDoor
open Go.VD
set_option linter.unusedVariables false
set_option linter.unusedSimpArgs false
theorem orE_zero (a : Int) : orE a 0 = a := by
  unfold orE; cases h : (a == 0)
  · rfl
  · rw [beq_iff_eq] at h; rw [h]; rfl
theorem orE_eq0 {a b : Int} (h : orE a b = 0) : a = 0 ∧ b = 0 := by
  unfold orE at h
  cases ha : (a == 0) with
  | true => rw [ha] at h; exact ⟨beq_iff_eq.1 ha, h⟩
  | false => rw [ha] at h; simp only [cond_false] at h; rw [h] at ha; exact absurd ha (by decide)
theorem firstE_app (h : Nat → Int) (a : Nat) : ∀ b, firstE h (a + b) = orE (firstE h a) (firstE (fun j => h (a + j)) b)
  | 0 => (orE_zero _).symm
  | b + 1 => by
    show (bif firstE h (a + b) == 0 then h (a + b) else firstE h (a + b)) = _
    rw [firstE_app h a b]
    show _ = orE (firstE h a) (bif firstE (fun j => h (a + j)) b == 0 then h (a + b) else firstE (fun j => h (a + j)) b)
    generalize firstE h a = A
    generalize firstE (fun j => h (a + j)) b = B
    unfold orE
    cases hA : (A == 0) with
    | true => simp only [cond_true]
    | false => simp only [cond_false, hA]
theorem firstE_congr {f g : Nat → Int} : ∀ {n : Nat}, (∀ i, i < n → f i = g i) → firstE f n = firstE g n
  | 0, _ => rfl
  | n + 1, h => by
    simp only [firstE]; rw [firstE_congr (n := n) fun i hi => h i (by omega), h n (by omega)]
theorem firstE_all {f : Nat → Int} : ∀ {n : Nat}, firstE f n = 0 → ∀ j, j < n → f j = 0
  | 0, _, j, hj => absurd hj (Nat.not_lt_zero _)
  | n + 1, h, j, hj => by
    simp only [firstE] at h
    cases hz : (firstE f n == 0) with
    | true =>
      rw [hz] at h
      rcases Nat.lt_or_ge j n with h1 | h1
      · exact firstE_all (beq_iff_eq.1 hz) j h1
      · rw [show j = n by omega]; exact h
    | false => rw [hz] at h; simp only [cond_false] at h; rw [h] at hz; exact absurd hz (by decide)
def namesS (s : Stn) : List ByteArray := nm3 s s.bu.length s.li.length s.so.length s.ba.length
theorem namesS_eq (s : Stn) : namesS s = s.bu ++ s.li.map Lin.n ++ s.so.map Src.n ++ s.ba.map Bay.n := by
  unfold namesS nm3 nm2 nm1; simp only [List.take_length]
theorem namesS_len (s : Stn) : (namesS s).length = s.bu.length + s.li.length + s.so.length + s.ba.length := by
  rw [namesS_eq]; simp only [List.length_append, List.length_map]
def othS (s : Stn) (j : Nat) : Int :=
  if j < s.bu.length then 0
  else if j < s.bu.length + s.li.length then (bif ohmB (s.li.getD (j - s.bu.length) default).z1 && ohmB (s.li.getD (j - s.bu.length) default).z0 then 0 else 2)
  else if j < s.bu.length + s.li.length + s.so.length then (bif srcB (s.so.getD (j - s.bu.length - s.li.length) default).emf (s.so.getD (j - s.bu.length - s.li.length) default).z1 (s.so.getD (j - s.bu.length - s.li.length) default).z0 then 0 else 2)
  else bayErr s.bu.length s.li.length s.so.length s.ba (j - s.bu.length - s.li.length - s.so.length) (s.ba.getD (j - s.bu.length - s.li.length - s.so.length) default)
def flatE (s : Stn) (j : Nat) : Int := orE (nmdS ((namesS s).take j) ((namesS s).getD j default)) (othS s j)
theorem getD_app_l {α : Type} (a b : List α) (j : Nat) (d : α) (h : j < a.length) : (a ++ b).getD j d = a.getD j d := by
  simp only [List.getD_eq_getElem?_getD]; rw [List.getElem?_append_left h]
theorem getD_app_r {α : Type} (a b : List α) (j : Nat) (d : α) : (a ++ b).getD (a.length + j) d = b.getD j d := by
  simp only [List.getD_eq_getElem?_getD]; rw [List.getElem?_append_right (by omega), Nat.add_sub_cancel_left]
theorem flat1 (s : Stn) (j : Nat) (h : j < s.bu.length) : flatE s j = e1S s j := by
  unfold flatE e1S othS
  rw [if_pos h, orE_zero, namesS_eq]
  have e : nm3 s j 0 0 0 = s.bu.take j := by simp [nm3, nm2, nm1]
  rw [e, List.append_assoc, List.append_assoc, List.take_append_of_le_length (by omega), getD_app_l _ _ _ _ h]
theorem flat2 (s : Stn) (j : Nat) (h : j < s.li.length) : flatE s (s.bu.length + j) = e2S s j := by
  unfold flatE e2S othS
  rw [if_neg (by omega), if_pos (by omega), namesS_eq, Nat.add_sub_cancel_left]
  have e : nm3 s s.bu.length j 0 0 = s.bu ++ (s.li.take j).map Lin.n := by simp [nm3, nm2, nm1]
  rw [e, List.append_assoc, List.append_assoc, List.take_length_add_append, getD_app_r, List.take_append_of_le_length (by rw [List.length_map]; omega), getD_app_l _ _ _ _ (by rw [List.length_map]; exact h), map_getD _ _ _ h, List.map_take]
theorem flat3 (s : Stn) (j : Nat) (h : j < s.so.length) : flatE s (s.bu.length + s.li.length + j) = e3S s j := by
  unfold flatE e3S othS
  rw [if_neg (by omega), if_neg (by omega), if_pos (by omega), namesS_eq]
  have e : nm3 s s.bu.length s.li.length j 0 = s.bu ++ s.li.map Lin.n ++ (s.so.take j).map Src.n := by simp [nm3, nm2, nm1]
  have el : s.bu.length + s.li.length + j = (s.bu ++ s.li.map Lin.n).length + j := by simp
  have ed : s.bu.length + s.li.length + j - s.bu.length - s.li.length = j := by omega
  rw [ed, e, el, List.append_assoc, List.take_length_add_append, getD_app_r, List.take_append_of_le_length (by rw [List.length_map]; omega), getD_app_l _ _ _ _ (by rw [List.length_map]; exact h), map_getD _ _ _ h, List.map_take]
theorem flat4 (s : Stn) (j : Nat) (h : j < s.ba.length) : flatE s (s.bu.length + s.li.length + s.so.length + j) = e4S s j := by
  unfold flatE e4S othS
  rw [if_neg (by omega), if_neg (by omega), if_neg (by omega), namesS_eq]
  have e : nm3 s s.bu.length s.li.length s.so.length j = s.bu ++ s.li.map Lin.n ++ s.so.map Src.n ++ (s.ba.take j).map Bay.n := by simp [nm3, nm2, nm1]
  have el : s.bu.length + s.li.length + s.so.length + j = (s.bu ++ s.li.map Lin.n ++ s.so.map Src.n).length + j := by simp only [List.length_append, List.length_map]
  have ed : s.bu.length + s.li.length + s.so.length + j - s.bu.length - s.li.length - s.so.length = j := by omega
  rw [ed, e, el, List.take_length_add_append, getD_app_r, map_getD _ _ _ h, List.map_take]
theorem elsE_flat (s : Stn) : elsE s = firstE (flatE s) (namesS s).length := by
  rw [namesS_len, firstE_app, firstE_app, firstE_app]
  unfold elsE
  rw [firstE_congr (flat1 s), firstE_congr (flat2 s), firstE_congr (flat3 s), firstE_congr (flat4 s)]
  generalize firstE (e1S s) s.bu.length = A
  generalize firstE (e2S s) s.li.length = B
  generalize firstE (e3S s) s.so.length = C
  generalize firstE (e4S s) s.ba.length = D
  unfold orE
  cases hA : (A == 0) with
  | false => simp only [cond_false, hA]
  | true =>
    simp only [cond_true]
    cases hB : (B == 0) with
    | false => simp only [cond_false, hB]
    | true => simp only [cond_true]
def renS (s : Stn) (i : Nat) (nm : ByteArray) : Stn :=
  if i < s.bu.length then { s with bu := s.bu.set i nm }
  else if i < s.bu.length + s.li.length then { s with li := s.li.set (i - s.bu.length) { s.li.getD (i - s.bu.length) default with n := nm } }
  else if i < s.bu.length + s.li.length + s.so.length then { s with so := s.so.set (i - s.bu.length - s.li.length) { s.so.getD (i - s.bu.length - s.li.length) default with n := nm } }
  else { s with ba := s.ba.set (i - s.bu.length - s.li.length - s.so.length) { s.ba.getD (i - s.bu.length - s.li.length - s.so.length) default with n := nm } }
theorem set_fields {α β : Type} [Inhabited α] (l : List α) (k : Nat) (v : α) (f : α → β) (h : f v = f (l.getD k default)) (j : Nat) : f ((l.set k v).getD j default) = f (l.getD j default) := by
  simp only [List.getD_eq_getElem?_getD] at *
  rw [List.getElem?_set]
  by_cases hk : k = j
  · subst hk
    rw [if_pos rfl]
    by_cases hl : k < l.length
    · rw [if_pos hl]; exact h
    · rw [if_neg hl, List.getElem?_eq_none (by omega)]
  · rw [if_neg hk]
theorem ren_names (s : Stn) (i : Nat) (nm : ByteArray) : namesS (renS s i nm) = (namesS s).set i nm := by
  rw [namesS_eq, namesS_eq]
  unfold renS
  split
  · rename_i h
    rw [List.append_assoc, List.append_assoc, List.append_assoc, List.append_assoc, List.set_append_left _ _ h]
  · split
    · rename_i h0 h
      rw [List.append_assoc, List.append_assoc, List.append_assoc, List.append_assoc, List.set_append_right _ _ (by omega), List.set_append_left _ _ (by rw [List.length_map]; omega), List.map_set]
    · split
      · rename_i h0 h1 h
        have el : (s.bu ++ s.li.map Lin.n).length = s.bu.length + s.li.length := by simp
        rw [List.append_assoc (s.bu ++ _), List.append_assoc (s.bu ++ _), List.set_append_right _ _ (by omega), List.set_append_left _ _ (by rw [List.length_map]; omega), List.map_set, el]
        simp only [Nat.sub_sub]
      · rename_i h0 h1 h2
        have el : (s.bu ++ s.li.map Lin.n ++ s.so.map Src.n).length = s.bu.length + s.li.length + s.so.length := by simp only [List.length_append, List.length_map]
        rw [List.set_append_right _ _ (by omega), List.map_set, el]
        simp only [Nat.sub_sub]
theorem plcB_set (l : List Bay) (k : Nat) (v : Bay) (h : v.kind = (l.getD k default).kind ∧ v.of = (l.getD k default).of ∧ v.end_ = (l.getD k default).end_) (n : Nat) (kind of end_ : Int) : plcB (l.set k v) n kind of end_ = plcB l n kind of end_ := by
  unfold plcB
  congr 1
  congr 1
  funext j
  rw [set_fields l k v Bay.kind h.1, set_fields l k v Bay.of h.2.1, set_fields l k v Bay.end_ h.2.2]
theorem oth_bu (s : Stn) (k : Nat) (v : ByteArray) (j : Nat) : othS { s with bu := s.bu.set k v } j = othS s j := by
  unfold othS; simp only [List.length_set]
theorem oth_li (s : Stn) (k : Nat) (v : Lin) (h1 : v.z1 = (s.li.getD k default).z1) (h2 : v.z0 = (s.li.getD k default).z0) (j : Nat) : othS { s with li := s.li.set k v } j = othS s j := by
  unfold othS; simp only [List.length_set]
  rw [set_fields s.li k v Lin.z1 h1, set_fields s.li k v Lin.z0 h2]
theorem oth_so (s : Stn) (k : Nat) (v : Src) (h1 : v.z1 = (s.so.getD k default).z1) (h2 : v.z0 = (s.so.getD k default).z0) (h3 : v.emf = (s.so.getD k default).emf) (j : Nat) : othS { s with so := s.so.set k v } j = othS s j := by
  unfold othS; simp only [List.length_set]
  rw [set_fields s.so k v Src.z1 h1, set_fields s.so k v Src.z0 h2, set_fields s.so k v Src.emf h3]
theorem oth_ba (s : Stn) (k : Nat) (v : Bay) (h1 : v.kind = (s.ba.getD k default).kind) (h2 : v.of = (s.ba.getD k default).of) (h3 : v.end_ = (s.ba.getD k default).end_) (h4 : v.z = (s.ba.getD k default).z) (h5 : v.ls = (s.ba.getD k default).ls) (h6 : v.ct = (s.ba.getD k default).ct) (h7 : v.vt = (s.ba.getD k default).vt) (h8 : v.sat = (s.ba.getD k default).sat) (h9 : v.tr = (s.ba.getD k default).tr) (j : Nat) : othS { s with ba := s.ba.set k v } j = othS s j := by
  unfold othS bayErr; simp only [List.length_set]
  rw [plcB_set _ _ _ ⟨h1, h2, h3⟩, set_fields s.ba k v Bay.kind h1, set_fields s.ba k v Bay.of h2, set_fields s.ba k v Bay.end_ h3, set_fields s.ba k v Bay.z h4, set_fields s.ba k v Bay.ct h6, set_fields s.ba k v Bay.vt h7, set_fields s.ba k v Bay.sat h8, set_fields s.ba k v Bay.tr h9, set_fields s.ba k v Bay.ls h5]
theorem ren_oth (s : Stn) (i : Nat) (nm : ByteArray) (j : Nat) : othS (renS s i nm) j = othS s j := by
  unfold renS
  split
  · exact oth_bu ..
  · split
    · exact oth_li s _ _ (by rfl) (by rfl) _
    · split
      · exact oth_so s _ _ (by rfl) (by rfl) (by rfl) _
      · exact oth_ba s _ _ (by rfl) (by rfl) (by rfl) (by rfl) (by rfl) (by rfl) (by rfl) (by rfl) (by rfl) _
theorem ren_head (s : Stn) (i : Nat) (nm : ByteArray) : (renS s i nm).n = s.n ∧ cntS (renS s i nm) = cntS s := by
  unfold renS
  split
  · exact ⟨rfl, by unfold cntS; simp only [List.length_set]⟩
  · split
    · exact ⟨rfl, by unfold cntS; simp only [List.length_set]⟩
    · split
      · exact ⟨rfl, by unfold cntS; simp only [List.length_set]⟩
      · exact ⟨rfl, by unfold cntS; simp only [List.length_set]⟩
theorem sE_iff (a b : ByteArray) : sE a b = true ↔ a = b := by
  rw [← beq_sE]; exact bytes_eq_iff
theorem nmdS_zero {l : List ByteArray} {s : ByteArray} (h : nmdS l s = 0) : nameS s = true ∧ ∀ a, a < l.length → l.getD a default ≠ s := by
  unfold nmdS at h
  cases hn : nameS s with
  | false => rw [hn] at h; simp at h
  | true =>
    rw [hn] at h
    cases hh : hasN l s with
    | true => rw [hh] at h; simp at h
    | false =>
      refine ⟨rfl, fun a ha he => ?_⟩
      unfold hasN at hh
      rw [List.any_eq_false] at hh
      exact hh a (List.mem_range.2 ha) ((sE_iff _ _).2 he)
theorem nmdS_zero_of {l : List ByteArray} {s : ByteArray} (h1 : nameS s = true) (h2 : ∀ a, a < l.length → l.getD a default ≠ s) : nmdS l s = 0 := by
  unfold nmdS
  have hh : hasN l s = false := by
    unfold hasN; rw [List.any_eq_false]; intro a ha he; exact h2 a (List.mem_range.1 ha) ((sE_iff _ _).1 he)
  rw [h1, hh]; rfl
theorem nmdS_eight {l : List ByteArray} {s : ByteArray} (h1 : nameS s = true) {a : Nat} (ha : a < l.length) (h2 : l.getD a default = s) : nmdS l s = 8 := by
  unfold nmdS
  have hh : hasN l s = true := by
    unfold hasN; rw [List.any_eq_true]; exact ⟨a, List.mem_range.2 ha, (sE_iff _ _).2 h2⟩
  rw [h1, hh]; rfl
theorem getD_take {α : Type} (l : List α) (j a : Nat) (d : α) (h : a < j) : (l.take j).getD a d = l.getD a d := by
  simp only [List.getD_eq_getElem?_getD]; rw [List.getElem?_take_of_lt h]
theorem getD_set_eq {α : Type} (l : List α) (i : Nat) (v d : α) (h : i < l.length) : (l.set i v).getD i d = v := by
  simp only [List.getD_eq_getElem?_getD]; rw [List.getElem?_set_self h]; rfl
theorem getD_set_ne {α : Type} (l : List α) (i j : Nat) (v d : α) (h : i ≠ j) : (l.set i v).getD j d = l.getD j d := by
  simp only [List.getD_eq_getElem?_getD]; rw [List.getElem?_set_ne h]
theorem chk_valid {s : Stn} (h : chkS s = 0) : nameS s.n = true ∧ cntS s = true ∧ ∀ j, j < (namesS s).length → flatE s j = 0 := by
  unfold chkS at h
  cases h1 : nameS s.n with
  | false => rw [h1] at h; simp at h
  | true =>
    rw [h1] at h
    cases h2 : cntS s with
    | false => rw [h2] at h; simp at h
    | true =>
      rw [h2] at h
      simp only [cond_true] at h
      rw [elsE_flat] at h
      exact ⟨rfl, rfl, firstE_all h⟩
theorem chk_ren {s : Stn} (h : chkS s = 0) {i k : Nat} (hi : i < (namesS s).length) (hk : k < (namesS s).length) :
    chkS (renS s i ((namesS s).getD k default)) = if i = k then 0 else 8 := by
  obtain ⟨h1, h2, h3⟩ := chk_valid h
  obtain ⟨g1, g2⟩ := ren_head s i ((namesS s).getD k default)
  have hnm : ∀ j, j < (namesS s).length → nameS ((namesS s).getD j default) = true ∧ ∀ a, a < j → (namesS s).getD a default ≠ (namesS s).getD j default := fun j hj => by
    have := nmdS_zero (orE_eq0 (h3 j hj)).1
    refine ⟨this.1, fun a ha => ?_⟩
    have t := this.2 a (by rw [List.length_take]; omega)
    rwa [getD_take _ _ _ _ ha] at t
  have hot : ∀ j, j < (namesS s).length → othS s j = 0 := fun j hj => (orE_eq0 (h3 j hj)).2
  have hne : ∀ a b, a < (namesS s).length → b < (namesS s).length → a ≠ b → (namesS s).getD a default ≠ (namesS s).getD b default := fun a b ha hb hab => by
    rcases Nat.lt_or_ge a b with h | h
    · exact (hnm b hb).2 a h
    · exact fun e => (hnm a ha).2 b (by omega) e.symm
  unfold chkS
  rw [g1, g2, h1, h2, elsE_flat, ren_names, List.length_set]
  simp only [cond_true]
  have hfl : ∀ j, flatE (renS s i ((namesS s).getD k default)) j = orE (nmdS (((namesS s).set i ((namesS s).getD k default)).take j) (((namesS s).set i ((namesS s).getD k default)).getD j default)) (othS s j) := fun j => by
    unfold flatE; rw [ren_names, ren_oth]
  rw [firstE_congr fun j _ => hfl j]
  clear hfl g1 g2 h3 h h1 h2
  generalize namesS s = L at *
  have hg : ∀ j, j < L.length → (L.set i (L.getD k default)).getD j default = L.getD (if j = i then k else j) default := fun j hj => by
    by_cases e : j = i
    · subst e; rw [getD_set_eq _ _ _ _ hj, if_pos rfl]
    · rw [getD_set_ne _ _ _ _ _ (fun e' => e e'.symm), if_neg e]
  have hgood : ∀ j, j < L.length → (∀ a, a < j → (if a = i then k else a) ≠ (if j = i then k else j)) → orE (nmdS ((L.set i (L.getD k default)).take j) ((L.set i (L.getD k default)).getD j default)) (othS s j) = 0 := fun j hj ha => by
    rw [hot j hj, orE_zero]
    refine nmdS_zero_of ?_ fun a h => ?_
    · rw [hg j hj]; refine (hnm _ ?_).1; split <;> omega
    · have haj : a < j := by rw [List.length_take] at h; omega
      rw [getD_take _ _ _ _ haj, hg a (by omega), hg j hj]
      refine hne _ _ ?_ ?_ (ha a haj)
      · split <;> omega
      · split <;> omega
  by_cases hik : i = k
  · rw [if_pos hik]
    subst hik
    refine firstE_zero fun j hj => hgood j hj fun a ha => ?_
    split <;> split <;> omega
  · rw [if_neg hik]
    have hm : max i k < L.length := by omega
    have hlow : ∀ j, j < max i k → orE (nmdS ((L.set i (L.getD k default)).take j) ((L.set i (L.getD k default)).getD j default)) (othS s j) = 0 := fun j hj => hgood j (by omega) fun a ha => by
      split <;> split <;> omega
    have hat : orE (nmdS ((L.set i (L.getD k default)).take (max i k)) ((L.set i (L.getD k default)).getD (max i k) default)) (othS s (max i k)) = 8 := by
      rw [hot _ hm, orE_zero]
      refine nmdS_eight (a := min i k) ?_ (by rw [List.length_take, List.length_set]; omega) ?_
      · rw [hg _ hm]; refine (hnm _ ?_).1; split <;> omega
      · rw [getD_take _ _ _ _ (by omega), hg _ (by omega), hg _ hm]
        congr 1
        split <;> split <;> omega
    have h8 : orE (nmdS ((L.set i (L.getD k default)).take (max i k)) ((L.set i (L.getD k default)).getD (max i k) default)) (othS s (max i k)) ≠ 0 := by rw [hat]; decide
    exact (firstE_at (f := fun j => orE (nmdS ((L.set i (L.getD k default)).take j) ((L.set i (L.getD k default)).getD j default)) (othS s j)) hm hlow h8).trans hat
theorem chk_some {s : Stn} (h : chkS s = 0) : 0 < (namesS s).length := by
  have h2 := (chk_valid h).2.1
  rw [namesS_len]; unfold cntS at h2
  cases hb : decide (s.bu.length < 1) with
  | true => rw [hb] at h2; simp at h2
  | false => rw [decide_eq_false_iff_not] at hb; omega
end Go.Proofs.YtfleadelfklenaaDoor
end
section
namespace Go.Proofs.YtfleadelfklenaaDoor
open Go.VD
set_option linter.unusedVariables false
set_option linter.unusedSimpArgs false
set_option maxRecDepth 100000
def stBase : VD.Callee := fun f ds H => bif Nat.beq f 84 then (match ds with
    | [.v (.string s)] => bif Nat.ble s.size 1000000 then some (.v (.string s), H, .no) else none
    | _ => none) else none
theorem stBase_ok : CallOk Tryd.prog stBase := by
  intro g ds H d H' t h K hk
  unfold stBase at h
  cases hg : Nat.beq g 84 with
  | false => rw [hg] at h; cases h
  | true =>
    rw [hg] at h
    have hgf : g = 84 := Nat.eq_of_beq_eq_true hg
    subst hgf
    simp only [cond_true] at h
    split at h
    · rename_i s
      cases hs : Nat.ble s.size 1000000 with
      | false => rw [hs] at h; cases h
      | true =>
        rw [hs] at h
        simp only [cond_true, Option.some.injEq, Prod.mk.injEq] at h
        obtain ⟨rfl, rfl, rfl⟩ := h
        exact .pure _ (lclone_pure s (Nat.le_of_ble_eq_true hs)) hk
    · cases h
def stText : List D := [.v (.string ⟨#[115, 116, 97, 116, 105, 111, 110, 32, 83, 59, 32, 98, 117, 115, 32, 65, 59, 32, 115, 111, 117, 114, 99, 101, 32, 71, 32, 49, 48, 48, 48, 32, 49, 32, 49, 48, 32, 50, 32, 50, 48, 59, 32, 98, 97, 121, 32, 81, 32, 115, 111, 117, 114, 99, 101, 32, 71, 32, 123, 32, 99, 116, 32, 49, 59, 32, 118, 116, 32, 49, 59, 32, 116, 114, 97, 118, 101, 108, 32, 50, 59, 32, 115, 101, 108, 101, 99, 116, 32, 65, 32, 99, 108, 111, 115, 101, 100, 59, 32, 125]⟩)]
def stItems : D := .tup [.sl 9 0 4 (.toEnd 4), .v (.int .i64 0), .v (.int .i64 0)]
def stBlocks : Heap := [some ⟨36, [.v (.string ⟨#[115, 101, 108, 101, 99, 116]⟩), .v (.bool false), .v (.string ⟨#[65]⟩), .v (.bool false), .v (.string ⟨#[99, 108, 111, 115, 101, 100]⟩), .v (.bool false)], false⟩,
  some ⟨36, [.v (.string ⟨#[116, 114, 97, 118, 101, 108]⟩), .v (.bool false), .v (.string ⟨#[50]⟩), .v (.bool false)], false⟩,
  some ⟨36, [.v (.string ⟨#[118, 116]⟩), .v (.bool false), .v (.string ⟨#[49]⟩), .v (.bool false)], false⟩,
  some ⟨36, [.v (.string ⟨#[99, 116]⟩), .v (.bool false), .v (.string ⟨#[49]⟩), .v (.bool false)], false⟩,
  some ⟨39, [.v (.int .i64 1), .sl 3 0 2 (.toEnd 2), .v (.bool false), .v (.slice none 0 0), .v (.int .i64 1), .sl 2 0 2 (.toEnd 2), .v (.bool false), .v (.slice none 0 0), .v (.int .i64 1), .sl 1 0 2 (.toEnd 2), .v (.bool false), .v (.slice none 0 0), .v (.int .i64 1), .sl 0 0 3 (.toEnd 2), .v (.bool false), .v (.slice none 0 0)], false⟩,
  some ⟨36, [.v (.string ⟨#[98, 97, 121]⟩), .v (.bool false), .v (.string ⟨#[81]⟩), .v (.bool false), .v (.string ⟨#[115, 111, 117, 114, 99, 101]⟩), .v (.bool false), .v (.string ⟨#[71]⟩), .v (.bool false)], false⟩,
  some ⟨36, [.v (.string ⟨#[115, 111, 117, 114, 99, 101]⟩), .v (.bool false), .v (.string ⟨#[71]⟩), .v (.bool false), .v (.string ⟨#[49, 48, 48, 48]⟩), .v (.bool false), .v (.string ⟨#[49]⟩), .v (.bool false), .v (.string ⟨#[49, 48]⟩), .v (.bool false), .v (.string ⟨#[50]⟩), .v (.bool false), .v (.string ⟨#[50, 48]⟩), .v (.bool false)], false⟩,
  some ⟨36, [.v (.string ⟨#[98, 117, 115]⟩), .v (.bool false), .v (.string ⟨#[65]⟩), .v (.bool false)], false⟩,
  some ⟨36, [.v (.string ⟨#[115, 116, 97, 116, 105, 111, 110]⟩), .v (.bool false), .v (.string ⟨#[83]⟩), .v (.bool false)], false⟩,
  some ⟨39, [.v (.int .i64 1), .sl 8 0 2 (.toEnd 2), .v (.bool false), .v (.slice none 0 0), .v (.int .i64 1), .sl 7 0 2 (.toEnd 2), .v (.bool false), .v (.slice none 0 0), .v (.int .i64 1), .sl 6 0 7 (.toEnd 2), .v (.bool false), .v (.slice none 0 0), .v (.int .i64 1), .sl 5 0 4 (.toEnd 2), .v (.bool true), .sl 4 0 4 (.toEnd 4)], false⟩]
theorem stParse : NamelessL stText ∧ CallJ Tryd.prog 15 stText [] stItems stBlocks :=
  made_of_ev T_ok mixed stBase_ok (N := 1000) (n := 50) Tryd.func15 rfl (by kernel_rfl)
end Go.Proofs.YtfleadelfklenaaDoor
end
section
namespace Go.Proofs.YtfleadelfklenaaDoor
open Go.VD
set_option linter.unusedVariables false
set_option linter.unusedSimpArgs false
set_option maxRecDepth 100000
theorem stKnown_pure : PureJ Tryd.prog 5 [] (.v (.bool true)) :=
  pure_of_ev T_ok mixed (litBase_ok stParse.1 stParse.2 stBase_ok) (N := 1000) (n := 50) Tryd.func5 rfl (by kernel_rfl)
def ent_stKnown : Ent := fun ds => match ds with
  | [] => some (.v (.bool true), True)
  | _ => none
theorem ent_stKnown_ok : EntOk Tryd.prog 5 ent_stKnown := by
  intro ds d c h hc; unfold ent_stKnown at h; split at h
  · obtain ⟨rfl, rfl⟩ := pair_inj h; exact stKnown_pure
  · cases h
end Go.Proofs.YtfleadelfklenaaDoor
end
section
namespace Go.Proofs.YtfleadelfklenaaDoor
open Go.VD
set_option linter.unusedVariables false
set_option linter.unusedSimpArgs false
set_option maxRecDepth 100000
def ent_large2 : Ent := fun ds => match ds with
  | [.agg [.v (.string n), .ro nb xb, .ro nl xl, .ro ns xs, .ro ny xy]] =>
    some (.v (.bool (largeS ⟨n, unBus xb, unLin xl, unSrc xs, unBay xy⟩)), StnOk ⟨n, unBus xb, unLin xl, unSrc xs, unBay xy⟩ nb nl ns ny xb xl xs xy)
  | _ => none
theorem ent_large2_ok : EntOk Tryd.prog 6 ent_large2 := ent_large_ok
def ent_chk2 : Ent := fun ds => match ds with
  | [.agg [.v (.string n), .ro nb xb, .ro nl xl, .ro ns xs, .ro ny xy]] =>
    some (.v (.int .i64 (chkS ⟨n, unBus xb, unLin xl, unSrc xs, unBay xy⟩)), StnOk ⟨n, unBus xb, unLin xl, unSrc xs, unBay xy⟩ nb nl ns ny xb xl xs xy)
  | _ => none
theorem ent_chk2_ok : EntOk Tryd.prog 14 ent_chk2 := ent_pcheck_ok
def ent_rchk2 : Ent := ent_chk2
theorem ent_rchk2_ok : EntOk Tryd.prog 7 ent_rchk2 := ent_rcheck_ok
end Go.Proofs.YtfleadelfklenaaDoor
end
section
namespace Go.Proofs.YtfleadelfklenaaDoor
open Go.VD
set_option linter.unusedVariables false
set_option linter.unusedSimpArgs false
set_option maxRecDepth 100000
theorem rNames_pure (s : Stn) (hpre : okStn s ∧ fewS s) : PureJ Tryd.prog 12 [.agg (d_stnL s)] (.ro (namesS s).length (busesD (namesS s))) := by
  refine pureJ_of_vcx (call := (addPure 18 ent_rnames noCalls)) (lp := fun _ => none) (N := 10) T_ok mixed (addPure_ok ent_rnames_ok noCalls_ok) Tryd.func12 rfl (by decide) (by kernel_rfl) (by kernel_rfl) (LpAll.none _) (by first | exact ⟨stnD_nl s, trivial⟩ | exact busesD_nl _ | trivial) (by first | exact ⟨stnD_nl s, trivial⟩ | exact busesD_nl _ | trivial) ?_
  refine of_eq (B := letI z10 := (busesD (Stn.bu s)); letI z11 := (linesD (Stn.li s)); letI z0 := (Stn.mk (Stn.n s) (unBus z10) (unLin z11) (unSrc (srcsD (Stn.so s))) (unBay (baysD (Stn.ba s)))); letI z6 := (List.length (Stn.bu s)); letI z2 := ((z6 : Nat) : Int); letI z7 := (List.length (Stn.li s)); letI z3 := ((z7 : Nat) : Int); letI z8 := (List.length (Stn.so s)); letI z4 := ((z8 : Nat) : Int); letI z9 := (List.length (Stn.ba s)); letI z5 := ((z9 : Nat) : Int); letI z1 := (nm3 z0 (Int.toNat z2) (Int.toNat z3) (Int.toNat z4) (Int.toNat z5)); (True ∧ (True ∧ (((5 : Nat) ≤ (5 : Nat)) ∧ (True ∧ (((1 : Nat) < (5 : Nat)) ∧ (True ∧ (True ∧ (((2 : Nat) < (5 : Nat)) ∧ (True ∧ (True ∧ (((3 : Nat) < (5 : Nat)) ∧ (True ∧ (True ∧ (((4 : Nat) < (5 : Nat)) ∧ (True ∧ (((StnOk z0 z6 z7 z8 z9 z10 z11 (srcsD (Stn.so s)) (baysD (Stn.ba s))) ∧ ((fewS z0) ∧ ((((0 : Int) ≤ z2) ∧ (z2 ≤ z2)) ∧ ((((0 : Int) ≤ z3) ∧ (z3 ≤ z3)) ∧ ((((0 : Int) ≤ z4) ∧ (z4 ≤ z4)) ∧ (((0 : Int) ≤ z5) ∧ (z5 ≤ z5))))))) ∧ (True ∧ (True ∧ (True ∧ ((D.ro (List.length z1) (busesD z1)) = (D.ro (List.length (namesS s)) (busesD (namesS s)))))))))))))))))))))))) (by kernel_rfl) ?_
  obtain ⟨ok, hf⟩ := hpre
  have hok : okStn (Stn.mk s.n s.bu s.li s.so s.ba) := ok
  simp only [true_and, and_true, and_self, IsInt_lit, IsBool_lit, IsStr_lit, IsSl_lit, cellN_lit, cellL_lit, Bool.not_eq_true', Bool.not_eq_false', Bool.not_true, Bool.not_false, Int.reduceLE, Int.reduceLT, Int.reduceNeg, Nat.le_refl, Int.le_refl, Nat.reduceLT, Nat.reduceLeDiff, Nat.reduceEqDiff, D.v.injEq, D.tup.injEq, D.agg.injEq, D.ro.injEq, List.cons.injEq, Value.int.injEq, Value.bool.injEq, pcond_true, pcond_false, NamelessL, Nameless, Nat.reduceMul, Nat.reduceAdd, Nat.zero_add, Int.toNat_natCast, StnOk_lit, unBus_D, unLin_D, unSrc_D, unBay_D, stn_eta]
  exact ⟨⟨⟨okStn_lens ok, ok⟩, hf, by omega, by omega, by omega, by omega⟩, rfl, rfl⟩
theorem tmod_emod (n m : Int) (h0 : 0 < m) : (-m < n.tmod m ∧ n.tmod m < m) ∧ (n.tmod m < 0 → n.tmod m + m = n % m) ∧ (¬ n.tmod m < 0 → n.tmod m = n % m) := by
  have h1 := Int.emod_nonneg n (show m ≠ 0 by omega)
  have h2 := Int.emod_lt_of_pos n h0
  rcases Int.le_total 0 n with h | h
  · rw [Int.tmod_eq_emod_of_nonneg h]; omega
  · obtain ⟨k, rfl⟩ : ∃ k, n = -k := ⟨-n, by omega⟩
    rw [Int.neg_tmod, Int.tmod_eq_emod_of_nonneg (show 0 ≤ k by omega)]
    have e := Int.emod_add_mul_ediv k m
    have e2 := Int.emod_add_mul_ediv (-k) m
    have h3 := Int.emod_nonneg k (show m ≠ 0 by omega)
    have h4 := Int.emod_lt_of_pos k h0
    by_cases hz : k % m = 0
    · have : (-k) % m = 0 := Int.emod_eq_zero_of_dvd ((Int.dvd_neg).2 (Int.dvd_of_emod_eq_zero hz))
      omega
    · have : (-k) % m = m - k % m := by
        have hd : (-k) % m = (m - k % m) % m := by
          rw [Int.sub_emod, Int.emod_self, Int.emod_emod_of_dvd _ (Int.dvd_refl m)]
          rw [← Int.zero_sub, Int.sub_emod, Int.zero_emod]
        rw [hd, Int.emod_eq_of_lt (by omega) (by omega)]
      omega
theorem within_pure (n m : Int) (hpre : I64 n ∧ 0 < m ∧ m ≤ 1000000) : PureJ Tryd.prog 9 [.v (.int .i64 n), .v (.int .i64 m)] (.v (.int .i64 (n % m))) := by
  refine pureJ_of_vcx (call := noCalls) (lp := fun _ => none) (N := 10) T_ok mixed noCalls_ok Tryd.func9 rfl (by decide) (by kernel_rfl) (by kernel_rfl) (LpAll.none _) (by first | trivial | (simp only [NamelessL, Nameless, and_self, and_true, true_and]; done) | (simp [NamelessL, Nameless, u32s_nameless, namelessL_ints]; done)) (by first | trivial | (simp only [NamelessL, Nameless, and_self, and_true, true_and]; done) | (simp [NamelessL, Nameless, u32s_nameless, namelessL_ints]; done)) ?_
  refine of_eq (B := letI z0 := (D.v (Value.int IntKind.i64 (n % m))); letI z1 := Int.tmod n m; (True ∧ (True ∧ (True ∧ ((m ≠ (0 : Int)) ∧ (True ∧ (True ∧ (True ∧ (pcond (Decidable.decide (z1 < (0 : Int))) (True ∧ (True ∧ (True ∧ (True ∧ (True ∧ (True ∧ (True ∧ (True ∧ ((D.v (Value.int IntKind.i64 (IntKind.wrap IntKind.i64 (z1 + m)))) = z0))))))))) (True ∧ (True ∧ (True ∧ (True ∧ ((D.v (Value.int IntKind.i64 z1)) = z0)))))))))))))) (by kernel_rfl) ?_
  simp only [true_and, and_true, and_self, IsInt_lit, IsBool_lit, IsStr_lit, IsSl_lit, cellN_lit, cellL_lit, Bool.not_eq_true', Bool.not_eq_false', Bool.not_true, Bool.not_false, Int.reduceLE, Int.reduceLT, Int.reduceNeg, Nat.le_refl, Int.le_refl, Nat.reduceLT, Nat.reduceLeDiff, Nat.reduceEqDiff, D.v.injEq, D.tup.injEq, D.agg.injEq, D.ro.injEq, List.cons.injEq, Value.int.injEq, Value.bool.injEq, pcond_true, pcond_false, NamelessL, Nameless, Nat.reduceMul, Nat.reduceAdd, Nat.zero_add, Int.toNat_natCast]
  obtain ⟨hn, h0, hm⟩ := hpre
  have e1 := tmod_emod n m h0
  refine ⟨by omega, pcond_intro (fun h => ?_) (fun h => ?_)⟩
  · simp only [decide_eq_true_eq] at h
    rw [wrap_i64_of (by omega) (by omega)]; omega
  · simp only [decide_eq_false_iff_not] at h; omega
def ent_within : Ent := fun ds => match ds with
  | [.v (.int .i64 n), .v (.int .i64 m)] => some (.v (.int .i64 (n % m)), I64 n ∧ 0 < m ∧ m ≤ 1000000)
  | _ => none
theorem ent_within_ok : EntOk Tryd.prog 9 ent_within := by
  intro ds d c h hc; unfold ent_within at h; split at h
  · obtain ⟨rfl, rfl⟩ := pair_inj h; exact within_pure _ _ hc
  · cases h
theorem set_row {α : Type} [Inhabited α] {F : List α → List D} {f : α → List D} {w : Nat} (hw : 0 < w) (h0 : F [] = []) (h1 : ∀ x r, F (x :: r) = f x ++ F r) (hl : ∀ x, (f x).length = w) (c : D) :
    ∀ (l : List α) (k : Nat) (y : α), f y = (f (l.getD k default)).set 0 c → F (l.set k y) = (F l).set (k * w) c
  | [], k, y, _ => by rw [List.set_nil, h0, List.set_nil]
  | x :: r, 0, y, h => by
    simp only [List.getD_cons_zero] at h
    rw [List.set_cons_zero, h1, h1, h, Nat.zero_mul, List.set_append_left _ _ (by rw [hl]; exact hw)]
  | x :: r, k + 1, y, h => by
    simp only [List.getD_cons_succ] at h
    rw [List.set_cons_succ, h1, h1, set_row hw h0 h1 hl c r k y h, List.set_append_right _ _ (by rw [hl, Nat.succ_mul]; omega), hl, show (k + 1) * w - w = k * w by rw [Nat.succ_mul]; omega]
theorem set_buses (l : List ByteArray) (k : Nat) (nm : ByteArray) : busesD (l.set k nm) = (busesD l).set k (d_s nm) := by unfold busesD; rw [List.map_set]
theorem set_lines (l : List Lin) (k : Nat) (nm : ByteArray) : linesD (l.set k { l.getD k default with n := nm }) = (linesD l).set (k * 5) (d_s nm) :=
  set_row (F := linesD) (f := linD) (w := 5) (by omega) rfl (fun _ _ => rfl) (fun _ => rfl) _ _ _ _ rfl
theorem set_srcs (l : List Src) (k : Nat) (nm : ByteArray) : srcsD (l.set k { l.getD k default with n := nm }) = (srcsD l).set (k * 6) (d_s nm) :=
  set_row (F := srcsD) (f := srcD') (w := 6) (by omega) rfl (fun _ _ => rfl) (fun _ => rfl) _ _ _ _ rfl
theorem set_bays (l : List Bay) (k : Nat) (nm : ByteArray) : baysD (l.set k { l.getD k default with n := nm }) = (baysD l).set (k * 12) (d_s nm) :=
  set_row (F := baysD) (f := bayD) (w := 12) (by omega) rfl (fun _ _ => rfl) (fun _ => rfl) _ _ _ _ rfl
theorem renamed_pure (s : Stn) (i : Nat) (nm : ByteArray) (hpre : okStn s ∧ fewS s ∧ i < (namesS s).length) : PureJ Tryd.prog 13 [.agg (d_stnL s), .v (.int .i64 (i : Int)), .v (.string nm)] (.agg (d_stnL (renS s i nm))) := by
  refine pureJ_of_vcx (call := noCalls) (lp := fun _ => none) (N := 10) T_ok mixed noCalls_ok Tryd.func13 rfl (by decide) (by kernel_rfl) (by kernel_rfl) (LpAll.none _) (by first | exact ⟨stnD_nl s, trivial, trivial, trivial⟩ | exact stnD_nl _ | trivial) (by first | exact ⟨stnD_nl s, trivial, trivial, trivial⟩ | exact stnD_nl _ | trivial) ?_
  refine of_eq (B := letI z30 := ((i : Nat) : Int); letI z36 := (List.length (Stn.bu s)); letI z6 := ((0 : Nat) + z36); letI z35 := ((z6 : Nat) : Int); letI z10 := (IntKind.wrap IntKind.i64 (z30 - z35)); letI z37 := (List.length (Stn.li s)); letI z8 := ((0 : Nat) + z37); letI z55 := ((z8 : Nat) : Int); letI z0 := (IntKind.wrap IntKind.i64 (z10 - z55)); letI z59 := (Stn.bu (renS s i nm)); letI z60 := (Stn.li (renS s i nm)); letI z61 := (Stn.so (renS s i nm)); letI z62 := (Stn.ba (renS s i nm)); letI z1 := (D.agg [(D.v (Value.string (Stn.n (renS s i nm)))), (D.ro (List.length z59) (busesD z59)), (D.ro (List.length z60) (linesD z60)), (D.ro (List.length z61) (srcsD z61)), (D.ro (List.length z62) (baysD z62))]); letI z63 := (busesD (Stn.bu s)); letI z2 := (([] : List D) ++ (List.take (z36 * (1 : Nat)) z63)); letI z64 := (linesD (Stn.li s)); letI z3 := (([] : List D) ++ (List.take (z37 * (5 : Nat)) z64)); letI z39 := (List.length (Stn.ba s)); letI z4 := (([] : List D) ++ (List.take (z39 * (12 : Nat)) (baysD (Stn.ba s)))); letI z38 := (List.length (Stn.so s)); letI z5 := (([] : List D) ++ (List.take (z38 * (6 : Nat)) (srcsD (Stn.so s)))); letI z7 := ((0 : Nat) + z38); letI z9 := ((0 : Nat) + z39); letI z56 := ((z7 : Nat) : Int); letI z27 := (IntKind.wrap IntKind.i64 (z0 - z56)); letI z11 := (((0 : Nat) + ((Int.toNat z27) * (12 : Nat))) + (0 : Nat)); letI z12 := ((5 : Nat) ≤ (5 : Nat)); letI z28 := (9223372036854775807 : Nat); letI z13 := (((0 : Nat) ≤ (16777216 : Nat)) ∧ ((0 : Nat) ≤ z28)); letI z40 := ((0 : Nat) < (12 : Nat)); letI z41 := (z9 * (12 : Nat)); letI z14 := (((NamelessL z4) ∧ (z40 ∧ (((0 : Nat) + z41) ≤ (List.length z4)))) ∧ True); letI z15 := (D.v (Value.string nm)); letI z45 := ((0 : Nat) < (5 : Nat)); letI z49 := (z8 * (5 : Nat)); letI z16 := ((NamelessL z3) ∧ (z45 ∧ (((0 : Nat) + z49) ≤ (List.length z3)))); letI z47 := ((0 : Nat) < (6 : Nat)); letI z50 := (z7 * (6 : Nat)); letI z17 := ((NamelessL z5) ∧ (z47 ∧ (((0 : Nat) + z50) ≤ (List.length z5)))); letI z43 := ((0 : Nat) < (1 : Nat)); letI z48 := (z6 * (1 : Nat)); letI z18 := ((NamelessL z2) ∧ (z43 ∧ (((0 : Nat) + z48) ≤ (List.length z2)))); letI z19 := ((0 : Nat) + ((Int.toNat z30) * (1 : Nat))); letI z20 := (((0 : Nat) + ((Int.toNat z10) * (5 : Nat))) + (0 : Nat)); letI z21 := ((1 : Nat) = (1 : Nat)); letI z22 := (((0 : Nat) + ((Int.toNat z0) * (6 : Nat))) + (0 : Nat)); letI z23 := (D.ro z9 (List.take z41 (List.drop (0 : Nat) z4))); letI z24 := (D.ro z8 (List.take z49 (List.drop (0 : Nat) z3))); letI z25 := (D.ro z7 (List.take z50 (List.drop (0 : Nat) z5))); letI z26 := (D.ro z6 (List.take z48 (List.drop (0 : Nat) z2))); letI z57 := ((5 : Nat) = (5 : Nat)); letI z29 := (z57 ∧ z12); letI z31 := (D.v (Value.string (Stn.n s))); letI z32 := ((0 : Nat) ≤ (0 : Nat)); letI z33 := (IntKind.wrap IntKind.i64 (z35 + z55)); letI z34 := (140737488355328 : Nat); letI z42 := ((1 : Nat) < (5 : Nat)); letI z44 := ((2 : Nat) < (5 : Nat)); letI z46 := ((3 : Nat) < (5 : Nat)); letI z51 := List.set z2 z19 z15; letI z52 := List.set z3 z20 z15; letI z53 := List.set z5 z22 z15; letI z54 := List.set z4 z11 z15; letI z58 := ((4 : Nat) < (5 : Nat)); (True ∧ (True ∧ (z13 ∧ (True ∧ (z42 ∧ ((((z36 * (1 : Nat)) ≤ (List.length z63)) ∧ (((22 : Nat) = (22 : Nat)) ∧ (z21 ∧ (((9 : Nat) = (9 : Nat)) ∧ (z32 ∧ (z43 ∧ ((z6 ≤ z28) ∧ ((z6 * (16 : Nat)) ≤ z34)))))))) ∧ (True ∧ ((z21 ∧ ((2 : Nat) ≤ (5 : Nat))) ∧ (z13 ∧ (True ∧ (z44 ∧ ((((z37 * (5 : Nat)) ≤ (List.length z64)) ∧ (((23 : Nat) = (23 : Nat)) ∧ (z57 ∧ (((57 : Nat) = (57 : Nat)) ∧ (z32 ∧ (z45 ∧ ((z8 ≤ z28) ∧ ((z8 * (48 : Nat)) ≤ z34)))))))) ∧ (True ∧ ((z21 ∧ ((3 : Nat) ≤ (5 : Nat))) ∧ (z13 ∧ (True ∧ (z46 ∧ ((((z38 * (6 : Nat)) ≤ (List.length (srcsD (Stn.so s)))) ∧ (((24 : Nat) = (24 : Nat)) ∧ (((6 : Nat) = (6 : Nat)) ∧ (((60 : Nat) = (60 : Nat)) ∧ (z32 ∧ (z47 ∧ ((z7 ≤ z28) ∧ ((z7 * (56 : Nat)) ≤ z34)))))))) ∧ (True ∧ ((z21 ∧ ((4 : Nat) ≤ (5 : Nat))) ∧ (z13 ∧ (True ∧ (z58 ∧ ((((z39 * (12 : Nat)) ≤ (List.length (baysD (Stn.ba s)))) ∧ (((25 : Nat) = (25 : Nat)) ∧ (((12 : Nat) = (12 : Nat)) ∧ (((52 : Nat) = (52 : Nat)) ∧ (z32 ∧ (z40 ∧ ((z9 ≤ z28) ∧ ((z9 * (120 : Nat)) ≤ z34)))))))) ∧ (True ∧ ((z21 ∧ z12) ∧ (True ∧ (z42 ∧ (True ∧ (True ∧ (z44 ∧ (True ∧ (True ∧ (z46 ∧ (True ∧ (True ∧ (True ∧ (True ∧ ((Bool.true = Bool.true) ∧ (True ∧ (True ∧ (True ∧ (True ∧ (pcond (Decidable.decide (z30 < z35)) (True ∧ (z42 ∧ (True ∧ (True ∧ ((((0 : Int) ≤ z30) ∧ (z30 < z35)) ∧ ((z21 ∧ ((z19 + (1 : Nat)) ≤ (List.length z2))) ∧ (z12 ∧ (z29 ∧ ((z12 ∧ True) ∧ ((True ∧ (((NamelessL z51) ∧ (z43 ∧ (((0 : Nat) + z48) ≤ (List.length z51)))) ∧ (z16 ∧ (z17 ∧ z14)))) ∧ ((D.agg [z31, (D.ro z6 (List.take z48 (List.drop (0 : Nat) z51))), z24, z25, z23]) = z1))))))))))) (True ∧ (True ∧ (True ∧ (True ∧ (True ∧ (True ∧ (pcond (Decidable.decide (z30 < z33)) (True ∧ (z44 ∧ (True ∧ (True ∧ (True ∧ (True ∧ ((((0 : Int) ≤ z10) ∧ (z10 < z55)) ∧ (True ∧ ((z21 ∧ ((z20 + (1 : Nat)) ≤ (List.length z3))) ∧ (z12 ∧ (z29 ∧ ((z12 ∧ True) ∧ ((True ∧ (z18 ∧ (((NamelessL z52) ∧ (z45 ∧ (((0 : Nat) + z49) ≤ (List.length z52)))) ∧ (z17 ∧ z14)))) ∧ ((D.agg [z31, z26, (D.ro z8 (List.take z49 (List.drop (0 : Nat) z52))), z25, z23]) = z1)))))))))))))) (True ∧ (True ∧ (True ∧ (True ∧ (True ∧ (True ∧ (True ∧ (True ∧ (pcond (Decidable.decide (z30 < (IntKind.wrap IntKind.i64 (z33 + z56)))) (True ∧ (z46 ∧ (True ∧ (True ∧ (True ∧ (True ∧ (True ∧ (True ∧ ((((0 : Int) ≤ z0) ∧ (z0 < z56)) ∧ (True ∧ ((z21 ∧ ((z22 + (1 : Nat)) ≤ (List.length z5))) ∧ (z12 ∧ (z29 ∧ ((z12 ∧ True) ∧ ((True ∧ (z18 ∧ (z16 ∧ (((NamelessL z53) ∧ (z47 ∧ (((0 : Nat) + z50) ≤ (List.length z53)))) ∧ z14)))) ∧ ((D.agg [z31, z26, z24, (D.ro z7 (List.take z50 (List.drop (0 : Nat) z53))), z23]) = z1)))))))))))))))) (True ∧ (z58 ∧ (True ∧ (True ∧ (True ∧ (True ∧ (True ∧ (True ∧ (True ∧ (True ∧ ((((0 : Int) ≤ z27) ∧ (z27 < ((z9 : Nat) : Int))) ∧ (True ∧ ((z21 ∧ ((z11 + (1 : Nat)) ≤ (List.length z4))) ∧ (z12 ∧ (z29 ∧ ((z12 ∧ True) ∧ ((True ∧ (z18 ∧ (z16 ∧ (z17 ∧ (((NamelessL z54) ∧ (z40 ∧ (((0 : Nat) + z41) ≤ (List.length z54)))) ∧ True))))) ∧ ((D.agg [z31, z26, z24, z25, (D.ro z9 (List.take z41 (List.drop (0 : Nat) z54)))]) = z1))))))))))))))))))))))))))))))))))))))))))))))))))))))))))))))))))))))))))))))) (by kernel_rfl) ?_
  obtain ⟨ok, ⟨f1, f2, f3, f4⟩, hi⟩ := hpre
  rw [namesS_len] at hi
  have l1 := busesD_length s.bu
  have l2 := linesD_length s.li
  have l3 := srcsD_length s.so
  have l4 := baysD_length s.ba
  have t1 : (busesD s.bu).take (s.bu.length * 1) = busesD s.bu := List.take_of_length_le (by omega)
  have t2 : (linesD s.li).take (s.li.length * 5) = linesD s.li := List.take_of_length_le (by omega)
  have t3 : (srcsD s.so).take (s.so.length * 6) = srcsD s.so := List.take_of_length_le (by omega)
  have t4 : (baysD s.ba).take (s.ba.length * 12) = baysD s.ba := List.take_of_length_le (by omega)
  have n1 := busesD_nl s.bu
  have n2 := linesD_nl s.li
  have n3 := srcsD_nl s.so
  have n4 := baysD_nl s.ba
  have w1 : IntKind.i64.wrap ((s.bu.length : Int) + (s.li.length : Int)) = ((s.bu.length + s.li.length : Nat) : Int) := by rw [wrap_i64_of (by omega) (by omega)]; omega
  have w2 : IntKind.i64.wrap (((s.bu.length + s.li.length : Nat) : Int) + (s.so.length : Int)) = ((s.bu.length + s.li.length + s.so.length : Nat) : Int) := by rw [wrap_i64_of (by omega) (by omega)]; omega
  simp only [true_and, and_true, and_self, IsInt_lit, IsBool_lit, IsStr_lit, IsSl_lit, cellN_lit, cellL_lit, Bool.not_eq_true', Bool.not_eq_false', Bool.not_true, Bool.not_false, Int.reduceLE, Int.reduceLT, Int.reduceNeg, Nat.le_refl, Int.le_refl, Nat.reduceLT, Nat.reduceLeDiff, Nat.reduceEqDiff, D.v.injEq, D.tup.injEq, D.agg.injEq, D.ro.injEq, List.cons.injEq, Value.int.injEq, Value.bool.injEq, pcond_true, pcond_false, NamelessL, Nameless, Nat.reduceMul, Nat.reduceAdd, Nat.zero_add, Int.toNat_natCast, List.nil_append, List.drop_zero, t1, t2, t3, t4, w1, w2, List.length_set]
  refine ⟨⟨by omega, by omega, by omega⟩, ⟨by omega, by omega, by omega⟩, ⟨by omega, by omega, by omega⟩, ⟨by omega, by omega, by omega⟩, pcond_intro (fun h => ?_) (fun h => pcond_intro (fun h' => ?_) (fun h' => pcond_intro (fun h2 => ?_) (fun h2 => ?_)))⟩
  · simp only [decide_eq_true_eq] at h
    have hh : i < s.bu.length := by omega
    have er : renS s i nm = { s with bu := s.bu.set i nm } := if_pos hh
    rw [er]
    have es := set_buses s.bu i nm
    have nn := busesD_nl (s.bu.set i nm)
    rw [es] at nn
    refine ⟨⟨by omega, by omega⟩, by omega, ⟨⟨by rw [Nat.mul_one]; exact nn, by omega⟩, ⟨n2, by omega⟩, ⟨n3, by omega⟩, n4, by omega⟩, rfl, ⟨by rw [List.length_set], ?_⟩, ⟨rfl, rfl⟩, ⟨rfl, rfl⟩, rfl, rfl⟩
    simp only [es, Nat.mul_one]
    exact List.take_of_length_le (by rw [List.length_set]; omega)
  · simp only [decide_eq_true_eq, decide_eq_false_iff_not] at h h'
    have hh : ¬ i < s.bu.length := by omega
    have hh1 : i < s.bu.length + s.li.length := by omega
    have er : renS s i nm = { s with li := s.li.set (i - s.bu.length) { s.li.getD (i - s.bu.length) default with n := nm } } := by unfold renS; rw [if_neg hh, if_pos hh1]
    rw [er]
    have es := set_lines s.li (i - s.bu.length) nm
    have nn := linesD_nl (s.li.set (i - s.bu.length) { s.li.getD (i - s.bu.length) default with n := nm })
    rw [es] at nn
    have wi : IntKind.i64.wrap ((i : Int) - (s.bu.length : Int)) = ((i - s.bu.length : Nat) : Int) := by rw [wrap_i64_of (by omega) (by omega)]; omega
    rw [wi, Int.toNat_natCast]
    refine ⟨⟨by omega, by omega⟩, by omega, ⟨⟨n1, by omega⟩, ⟨nn, by omega⟩, ⟨n3, by omega⟩, n4, by omega⟩, rfl, ⟨rfl, rfl⟩, ⟨by rw [List.length_set], ?_⟩, ⟨rfl, rfl⟩, rfl, rfl⟩
    simp only [es, Nat.add_zero]
    exact List.take_of_length_le (by rw [List.length_set]; omega)
  · simp only [decide_eq_true_eq, decide_eq_false_iff_not] at h h' h2
    have hh : ¬ i < s.bu.length := by omega
    have hh1 : ¬ i < s.bu.length + s.li.length := by omega
    have hh2 : i < s.bu.length + s.li.length + s.so.length := by omega
    have er : renS s i nm = { s with so := s.so.set (i - s.bu.length - s.li.length) { s.so.getD (i - s.bu.length - s.li.length) default with n := nm } } := by unfold renS; rw [if_neg hh, if_neg hh1, if_pos hh2]
    rw [er]
    have es := set_srcs s.so (i - s.bu.length - s.li.length) nm
    have nn := srcsD_nl (s.so.set (i - s.bu.length - s.li.length) { s.so.getD (i - s.bu.length - s.li.length) default with n := nm })
    rw [es] at nn
    have wi : IntKind.i64.wrap ((i : Int) - (s.bu.length : Int)) = ((i - s.bu.length : Nat) : Int) := by rw [wrap_i64_of (by omega) (by omega)]; omega
    have wj : IntKind.i64.wrap (((i - s.bu.length : Nat) : Int) - (s.li.length : Int)) = ((i - s.bu.length - s.li.length : Nat) : Int) := by rw [wrap_i64_of (by omega) (by omega)]; omega
    rw [wi, wj, Int.toNat_natCast]
    refine ⟨⟨by omega, by omega⟩, by omega, ⟨⟨n1, by omega⟩, ⟨n2, by omega⟩, ⟨nn, by omega⟩, n4, by omega⟩, rfl, ⟨rfl, rfl⟩, ⟨rfl, rfl⟩, ⟨by rw [List.length_set], ?_⟩, rfl, rfl⟩
    simp only [es, Nat.add_zero]
    exact List.take_of_length_le (by rw [List.length_set]; omega)
  · simp only [decide_eq_false_iff_not] at h h' h2
    have hh : ¬ i < s.bu.length := by omega
    have hh1 : ¬ i < s.bu.length + s.li.length := by omega
    have hh2 : ¬ i < s.bu.length + s.li.length + s.so.length := by omega
    have er : renS s i nm = { s with ba := s.ba.set (i - s.bu.length - s.li.length - s.so.length) { s.ba.getD (i - s.bu.length - s.li.length - s.so.length) default with n := nm } } := by unfold renS; rw [if_neg hh, if_neg hh1, if_neg hh2]
    rw [er]
    have es := set_bays s.ba (i - s.bu.length - s.li.length - s.so.length) nm
    have nn := baysD_nl (s.ba.set (i - s.bu.length - s.li.length - s.so.length) { s.ba.getD (i - s.bu.length - s.li.length - s.so.length) default with n := nm })
    rw [es] at nn
    have wi : IntKind.i64.wrap ((i : Int) - (s.bu.length : Int)) = ((i - s.bu.length : Nat) : Int) := by rw [wrap_i64_of (by omega) (by omega)]; omega
    have wj : IntKind.i64.wrap (((i - s.bu.length : Nat) : Int) - (s.li.length : Int)) = ((i - s.bu.length - s.li.length : Nat) : Int) := by rw [wrap_i64_of (by omega) (by omega)]; omega
    have wk : IntKind.i64.wrap (((i - s.bu.length - s.li.length : Nat) : Int) - (s.so.length : Int)) = ((i - s.bu.length - s.li.length - s.so.length : Nat) : Int) := by rw [wrap_i64_of (by omega) (by omega)]; omega
    rw [wi, wj, wk, Int.toNat_natCast]
    refine ⟨⟨by omega, by omega⟩, by omega, ⟨⟨n1, by omega⟩, ⟨n2, by omega⟩, ⟨n3, by omega⟩, nn, by omega⟩, rfl, ⟨rfl, rfl⟩, ⟨rfl, rfl⟩, ⟨rfl, rfl⟩, by rw [List.length_set], ?_⟩
    simp only [es, Nat.add_zero]
    exact List.take_of_length_le (by rw [List.length_set]; omega)
def ent_rNames : Ent := fun ds => match ds with
  | [.agg [.v (.string n), .ro nb xb, .ro nl xl, .ro ns xs, .ro ny xy]] =>
    some (.ro (namesS ⟨n, unBus xb, unLin xl, unSrc xs, unBay xy⟩).length (busesD (namesS ⟨n, unBus xb, unLin xl, unSrc xs, unBay xy⟩)), StnOk ⟨n, unBus xb, unLin xl, unSrc xs, unBay xy⟩ nb nl ns ny xb xl xs xy ∧ fewS ⟨n, unBus xb, unLin xl, unSrc xs, unBay xy⟩)
  | _ => none
theorem ent_rNames_ok : EntOk Tryd.prog 12 ent_rNames := by
  intro ds d c hd hc; unfold ent_rNames at hd; split at hd
  · rename_i n nb xb nl xl ns xs ny xy
    obtain ⟨rfl, rfl⟩ := pair_inj hd
    obtain ⟨⟨⟨⟨⟨a1, a2⟩, -⟩, ⟨⟨b1, b2⟩, -⟩, ⟨⟨c1, c2⟩, -⟩, ⟨⟨d1, d2⟩, -⟩⟩, ho⟩, hf⟩ := hc
    generalize unBus xb = u1 at *
    generalize unLin xl = u2 at *
    generalize unSrc xs = u3 at *
    generalize unBay xy = u4 at *
    subst a1; subst a2; subst b1; subst b2; subst c1; subst c2; subst d1; subst d2
    exact rNames_pure ⟨n, u1, u2, u3, u4⟩ ⟨ho, hf⟩
  · cases hd
def ent_renamed : Ent := fun ds => match ds with
  | [.agg [.v (.string n), .ro nb xb, .ro nl xl, .ro ns xs, .ro ny xy], .v (.int .i64 i), .v (.string nm)] =>
    some (.agg (d_stnL (renS ⟨n, unBus xb, unLin xl, unSrc xs, unBay xy⟩ i.toNat nm)), StnOk ⟨n, unBus xb, unLin xl, unSrc xs, unBay xy⟩ nb nl ns ny xb xl xs xy ∧ fewS ⟨n, unBus xb, unLin xl, unSrc xs, unBay xy⟩ ∧ 0 ≤ i ∧ i < (namesS ⟨n, unBus xb, unLin xl, unSrc xs, unBay xy⟩).length)
  | _ => none
theorem ent_renamed_ok : EntOk Tryd.prog 13 ent_renamed := by
  intro ds d c hd hc; unfold ent_renamed at hd; split at hd
  · rename_i n nb xb nl xl ns xs ny xy i nm
    obtain ⟨rfl, rfl⟩ := pair_inj hd
    obtain ⟨⟨⟨⟨⟨a1, a2⟩, -⟩, ⟨⟨b1, b2⟩, -⟩, ⟨⟨c1, c2⟩, -⟩, ⟨⟨d1, d2⟩, -⟩⟩, ho⟩, hf, h0, hi⟩ := hc
    generalize unBus xb = u1 at *
    generalize unLin xl = u2 at *
    generalize unSrc xs = u3 at *
    generalize unBay xy = u4 at *
    subst a1; subst a2; subst b1; subst b2; subst c1; subst c2; subst d1; subst d2
    obtain ⟨i, rfl⟩ := Int.eq_ofNat_of_zero_le h0
    simp only [Int.toNat_natCast]
    exact renamed_pure ⟨n, u1, u2, u3, u4⟩ i nm ⟨ho, hf, by omega⟩
  · cases hd
theorem mem_set {α : Type} {l : List α} {k : Nat} {y x : α} (h : x ∈ l.set k y) : x = y ∨ x ∈ l := by
  rcases List.mem_or_eq_of_mem_set h with h | h
  · exact .inr h
  · exact .inl h
theorem okStn_ren {s : Stn} (h : okStn s) (i : Nat) {nm : ByteArray} (hn : nm.size ≤ maxLen) (hi : i < (namesS s).length) : okStn (renS s i nm) := by
  obtain ⟨h0, ⟨h1, h2⟩, ⟨h3, h4⟩, ⟨h5, h6⟩, h7, h8⟩ := h
  rw [namesS_len] at hi
  unfold renS
  split
  · refine ⟨h0, ⟨by rw [List.length_set]; exact h1, fun x hx => ?_⟩, ⟨h3, h4⟩, ⟨h5, h6⟩, h7, h8⟩
    rcases mem_set hx with rfl | hx
    · exact hn
    · exact h2 x hx
  · split
    · refine ⟨h0, ⟨h1, h2⟩, ⟨by rw [List.length_set]; exact h3, fun x hx => ?_⟩, ⟨h5, h6⟩, h7, h8⟩
      rcases mem_set hx with rfl | hx
      · have := h4 _ (getD_mem (l := s.li) (i := i - s.bu.length) (by omega))
        exact ⟨hn, this.2⟩
      · exact h4 x hx
    · split
      · refine ⟨h0, ⟨h1, h2⟩, ⟨h3, h4⟩, ⟨by rw [List.length_set]; exact h5, fun x hx => ?_⟩, h7, h8⟩
        rcases mem_set hx with rfl | hx
        · have := h6 _ (getD_mem (l := s.so) (i := i - s.bu.length - s.li.length) (by omega))
          exact ⟨hn, this.2⟩
        · exact h6 x hx
      · refine ⟨h0, ⟨h1, h2⟩, ⟨h3, h4⟩, ⟨h5, h6⟩, by rw [List.length_set]; exact h7, fun x hx => ?_⟩
        rcases mem_set hx with rfl | hx
        · have := h8 _ (getD_mem (l := s.ba) (i := i - s.bu.length - s.li.length - s.so.length) (by omega))
          exact ⟨hn, this.2⟩
        · exact h8 x hx
theorem lawNames_pure (s : Stn) (i k : Int) (hpre : okStn s ∧ I64 i ∧ I64 k) : PureJ Tryd.prog 4 [.agg (d_stnL s), .v (.int .i64 i), .v (.int .i64 k)] (.v (.bool true)) := by
  refine pureJ_of_vcx (call := (addPure 5 ent_stKnown (addPure 6 ent_large2 (addPure 14 ent_chk2 (addPure 7 ent_rchk2 (addPure 12 ent_rNames (addPure 9 ent_within (addPure 13 ent_renamed noCalls)))))))) (lp := fun _ => none) (N := 10) T_ok mixed (addPure_ok ent_stKnown_ok (addPure_ok ent_large2_ok (addPure_ok ent_chk2_ok (addPure_ok ent_rchk2_ok (addPure_ok ent_rNames_ok (addPure_ok ent_within_ok (addPure_ok ent_renamed_ok noCalls_ok))))))) Tryd.func4 rfl (by decide) (by kernel_rfl) (by kernel_rfl) (LpAll.none _) (by first | exact ⟨stnD_nl s, trivial, trivial, trivial⟩ | trivial) (by first | exact ⟨stnD_nl s, trivial, trivial, trivial⟩ | trivial) ?_
  refine of_eq (B := letI z15 := (busesD (Stn.bu s)); letI z16 := (linesD (Stn.li s)); letI z1 := (Stn.mk (Stn.n s) (unBus z15) (unLin z16) (unSrc (srcsD (Stn.so s))) (unBay (baysD (Stn.ba s)))); letI z2 := (((List.length (namesS z1)) : Nat) : Int); letI z12 := (busesD (namesS z1)); letI z11 := ((Int.toNat (k % z2)) * (1 : Nat)); letI z8 := (List.getD z12 z11 (Inhabited.default)); letI z0 := (renS z1 (Int.toNat (i % z2)) (cellStr z8)); letI z3 := (StnOk z1 (List.length (Stn.bu s)) (List.length (Stn.li s)) (List.length (Stn.so s)) (List.length (Stn.ba s)) z15 z16 (srcsD (Stn.so s)) (baysD (Stn.ba s))); letI z13 := (busesD (Stn.bu z0)); letI z14 := (linesD (Stn.li z0)); letI z17 := (srcsD (Stn.so z0)); letI z18 := (baysD (Stn.ba z0)); letI z4 := (Stn.mk (Stn.n z0) (unBus z13) (unLin z14) (unSrc z17) (unBay z18)); letI z5 := (StnOk z4 (List.length (Stn.bu z0)) (List.length (Stn.li z0)) (List.length (Stn.so z0)) (List.length (Stn.ba z0)) z13 z14 z17 z18); letI z6 := ((5 : Nat) ≤ (5 : Nat)); letI z7 := (D.v (Value.bool Bool.true)); letI z9 := (((0 : Int) < z2) ∧ (z2 ≤ (1000000 : Int))); letI z10 := (True ∧ (True ∧ (True ∧ (z7 = z7)))); (True ∧ (True ∧ (True ∧ (True ∧ (z6 ∧ (z3 ∧ (True ∧ (pcond (largeS z1) (True ∧ z10) (z6 ∧ (z3 ∧ (True ∧ (True ∧ (pcond ((chkS z1) != (0 : Int)) z10 (z6 ∧ ((z3 ∧ (fewS z1)) ∧ (True ∧ (True ∧ (True ∧ (True ∧ (((I64 i) ∧ z9) ∧ (True ∧ (True ∧ (True ∧ (((I64 k) ∧ z9) ∧ (True ∧ (True ∧ (z6 ∧ (True ∧ (True ∧ (True ∧ ((((0 : Int) ≤ (k % z2)) ∧ ((k % z2) < z2)) ∧ (((z11 < (List.length z12)) ∧ (IsStr z8)) ∧ ((z3 ∧ ((fewS z1) ∧ (((0 : Int) ≤ (i % z2)) ∧ ((i % z2) < z2)))) ∧ (True ∧ ((((5 : Nat) = (5 : Nat)) ∧ z6) ∧ ((Bool.true = Bool.true) ∧ (True ∧ (True ∧ (True ∧ (pcond ((i % z2) == (k % z2)) (z6 ∧ (z5 ∧ (True ∧ (True ∧ (True ∧ (True ∧ ((D.v (Value.bool ((chkS z4) == (0 : Int)))) = z7))))))) (z6 ∧ (z5 ∧ (True ∧ (True ∧ (True ∧ (True ∧ ((D.v (Value.bool ((chkS z4) == (8 : Int)))) = z7)))))))))))))))))))))))))))))))))))))))))))))))) (by kernel_rfl) ?_
  obtain ⟨ok, hi, hk⟩ := hpre
  have ea : okStn (Stn.mk s.n s.bu s.li s.so s.ba) := ok
  simp only [true_and, and_true, and_self, IsInt_lit, IsBool_lit, IsStr_lit, IsSl_lit, cellN_lit, cellL_lit, Bool.not_eq_true', Bool.not_eq_false', Bool.not_true, Bool.not_false, Int.reduceLE, Int.reduceLT, Int.reduceNeg, Nat.le_refl, Int.le_refl, Nat.reduceLT, Nat.reduceLeDiff, Nat.reduceEqDiff, D.v.injEq, D.tup.injEq, D.agg.injEq, D.ro.injEq, List.cons.injEq, Value.int.injEq, Value.bool.injEq, pcond_true, pcond_false, NamelessL, Nameless, Nat.reduceMul, Nat.reduceAdd, Nat.zero_add, Int.toNat_natCast, StnOk_lit, unBus_D, unLin_D, unSrc_D, unBay_D, stn_eta]
  have A : (s.bu.length ≤ maxLen ∧ s.li.length ≤ maxLen ∧ s.so.length ≤ maxLen ∧ s.ba.length ≤ maxLen) ∧ okStn s := ⟨okStn_lens ok, ok⟩
  refine ⟨A, pcond_intro (fun _ => trivial) (fun _ => ⟨A, pcond_intro (fun _ => trivial) (fun hc => ?_)⟩)⟩
  rw [bne_eq_false_iff_eq] at hc
  have hf := cntS_few (chk_valid hc).2.1
  have hp := chk_some hc
  have hlen := namesS_len s
  obtain ⟨f1, f2, f3, f4⟩ := hf
  have i0 := Int.emod_nonneg i (show ((namesS s).length : Int) ≠ 0 by omega)
  have i1 := Int.emod_lt_of_pos i (show 0 < ((namesS s).length : Int) by omega)
  have k0 := Int.emod_nonneg k (show ((namesS s).length : Int) ≠ 0 by omega)
  have k1 := Int.emod_lt_of_pos k (show 0 < ((namesS s).length : Int) by omega)
  generalize i % ((namesS s).length : Int) = i2 at *
  generalize k % ((namesS s).length : Int) = k2 at *
  obtain ⟨i3, rfl⟩ := Int.eq_ofNat_of_zero_le i0
  obtain ⟨k3, rfl⟩ := Int.eq_ofNat_of_zero_le k0
  simp only [Int.toNat_natCast, Nat.mul_one]
  have gk := busesD_get (namesS s) k3 (by omega)
  rw [gk]
  have nmk : nameS ((namesS s).getD k3 default) = true := (nmdS_zero (orE_eq0 ((chk_valid hc).2.2 k3 (by omega))).1).1
  have nsz : ((namesS s).getD k3 default).size ≤ maxLen := by
    unfold nameS at nmk
    simp only [Bool.and_eq_true, decide_eq_true_eq] at nmk
    simp only [maxLen]; omega
  have okr := okStn_ren ok i3 nsz (by omega)
  have key := chk_ren hc (i := i3) (k := k3) (by omega) (by omega)
  have B : ((renS s i3 ((namesS s).getD k3 default)).bu.length ≤ maxLen ∧ (renS s i3 ((namesS s).getD k3 default)).li.length ≤ maxLen ∧ (renS s i3 ((namesS s).getD k3 default)).so.length ≤ maxLen ∧ (renS s i3 ((namesS s).getD k3 default)).ba.length ≤ maxLen) ∧ okStn (renS s i3 ((namesS s).getD k3 default)) := ⟨okStn_lens okr, okr⟩
  refine ⟨⟨A, f1, f2, f3, f4⟩, ⟨hi, by omega, by omega⟩, ⟨hk, by omega, by omega⟩, ⟨by omega, by omega⟩, ⟨by rw [busesD_length]; omega, by simp only [d_s, IsStr_lit]⟩, ⟨A, ⟨f1, f2, f3, f4⟩, by omega, by omega⟩, pcond_intro (fun h => ?_) (fun h => ?_)⟩
  · rw [beq_iff_eq] at h
    rw [if_pos (by omega)] at key
    exact ⟨B, by simp only [d_s, cellStr, key]; rfl⟩
  · rw [beq_eq_false_iff_ne] at h
    rw [if_neg (by omega)] at key
    exact ⟨B, by simp only [d_s, cellStr, key]; rfl⟩
end Go.Proofs.YtfleadelfklenaaDoor
end
