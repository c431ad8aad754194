import Derived.Test.YtbgnjnjnlkjicaaDoorZAz21
import Derived.Test.YtbgnjnjnlkjicaaDoorZAz11
section
namespace Go.Proofs.YtbgnjnjnlkjicaaDoor
open Go.VD
set_option linter.unusedVariables false
set_option linter.unusedSimpArgs false
set_option maxRecDepth 100000
theorem run_first {α : Type} [Inhabited α] {E : Dg → α → Int} {S : Dg → α → Dg} : ∀ (l : List α) (e : Nat → Int) (G : Nat → Dg) (f : Bool), (∀ i, i < l.length → E (G i) (l.getD i default) = e i) → (∀ i, i < l.length → e i = 0 → S (G i) (l.getD i default) = G (i + 1)) →
    (runA E S l (G 0) f).2.2 = firstE e l.length ∧ (firstE e l.length = 0 → (runA E S l (G 0) f).1 = G l.length)
  | [], e, G, f, h1, h2 => ⟨rfl, fun _ => rfl⟩
  | x :: r, e, G, f, h1, h2 => by
    have a1 := h1 0 (by simp)
    have a2 := h2 0 (by simp)
    simp only [List.getD_cons_zero] at a1 a2
    obtain ⟨i1, i2⟩ := run_first r (fun i => e (i + 1)) (fun i => G (i + 1)) false (fun i hi => by
      have := h1 (i + 1) (by simpa using hi); rwa [List.getD_cons_succ] at this) (fun i hi => by
      have := h2 (i + 1) (by simpa using hi); rwa [List.getD_cons_succ] at this)
    have hsplit : ∀ n, firstE e (n + 1) = orE (e 0) (firstE (fun i => e (i + 1)) n) := by
      intro n
      induction n with
      | zero => simp only [firstE, orE, beq_self_eq_true, cond_true]; cases h : (e 0 == 0) <;> simp_all
      | succ n ih =>
        rw [show firstE e (n + 1 + 1) = bif firstE e (n + 1) == 0 then e (n + 1) else firstE e (n + 1) from rfl, ih]
        simp only [orE, firstE]
        cases h : (e 0 == 0)
        · simp only [cond_false, h]
        · simp only [cond_true]
    rw [List.length_cons, hsplit]
    simp only [runA, a1]
    cases h : (e 0 == 0)
    · rw [beq_eq_false_iff_ne] at h
      rw [cond_false, orE_ne h]
      exact ⟨rfl, fun h0 => absurd h0 h⟩
    · rw [beq_iff_eq] at h
      rw [cond_true, a2 h, h, orE_z]
      exact ⟨i1, i2⟩
def mkEls (k : ByteArray) (l : List ByteArray) (i : Nat) : List El := (List.range i).map fun j => ⟨l.getD j default, k, (j : Int)⟩
theorem mkEls_names (k : ByteArray) (l : List ByteArray) (i : Nat) (h : i ≤ l.length) : (mkEls k l i).map El.n = l.take i := by
  unfold mkEls
  rw [List.map_map]
  apply List.ext_getElem
  · simp; omega
  · intro j h1 h2
    have : j < l.length := by simp at h1; omega
    simp [this]
theorem mkEls_succ (k : ByteArray) (l : List ByteArray) (i : Nat) : mkEls k l (i + 1) = mkEls k l i ++ [⟨l.getD i default, k, (i : Int)⟩] := by
  unfold mkEls; rw [List.range_succ, List.map_append]; rfl
theorem sE_comm (a b : ByteArray) : sE a b = sE b a := by
  unfold sE; rw [Bool.eq_iff_iff, beq_iff_eq, beq_iff_eq]; exact eq_comm
theorem hasN_any (l : List ByteArray) (s : ByteArray) : hasN l s = l.any fun x => sE x s := by
  unfold hasN
  rw [Bool.eq_iff_iff, List.any_eq_true, List.any_eq_true]
  constructor
  · rintro ⟨i, hi, h⟩
    exact ⟨_, getD_mem (List.mem_range.1 hi), h⟩
  · rintro ⟨x, hx, h⟩
    obtain ⟨i, hi, rfl⟩ := List.getElem_of_mem hx
    refine ⟨i, List.mem_range.2 hi, ?_⟩
    rw [List.getD_eq_getElem?_getD, List.getElem?_eq_getElem hi]; exact h
theorem hasEl_names (l : List El) (s : ByteArray) : hasEl l s = hasN (l.map El.n) s := by
  rw [hasN_any]
  unfold hasEl
  rw [List.any_map]
  congr 1
  funext e
  exact sE_comm _ _
theorem entE_nmd (l : List El) (names : List ByteArray) (s : ByteArray) (n : Nat) (limit : Nat) (h : l.map El.n = names) (hn : n < limit) : entE l s (n : Int) (limit : Int) = nmdS names s := by
  unfold entE nmdS
  rw [hasEl_names, h, beq_false_of_ne (by omega : (n : Int) ≠ (limit : Int)), cond_false]
theorem entS_zero (l : List El) (k s : ByteArray) (n limit : Int) (h : entE l s n limit = 0) : entS l k s n limit = l ++ [⟨s, k, n⟩] := by
  unfold entS; rw [h]; rfl
def G1 (s : Stn) (i : Nat) : Dg := ⟨⟨⟨[]⟩⟩, s.bu.take i, [], [], [], mkEls kBus s.bu i⟩
def G2 (s : Stn) (i : Nat) : Dg := ⟨⟨⟨[]⟩⟩, s.bu, s.li.take i, [], [], mkEls kBus s.bu s.bu.length ++ mkEls kLine (s.li.map Lin.n) i⟩
def G3 (s : Stn) (i : Nat) : Dg := ⟨⟨⟨[]⟩⟩, s.bu, s.li, s.so.take i, [], (mkEls kBus s.bu s.bu.length ++ mkEls kLine (s.li.map Lin.n) s.li.length) ++ mkEls kSource (s.so.map Src.n) i⟩
def G4 (s : Stn) (i : Nat) : Dg := ⟨⟨⟨[]⟩⟩, s.bu, s.li, s.so, s.ba.take i, ((mkEls kBus s.bu s.bu.length ++ mkEls kLine (s.li.map Lin.n) s.li.length) ++ mkEls kSource (s.so.map Src.n) s.so.length) ++ mkEls kBay (s.ba.map Bay.n) i⟩
theorem take_getD {α : Type} [Inhabited α] (l : List α) (i : Nat) (h : i < l.length) : l.take (i + 1) = l.take i ++ [l.getD i default] := by
  have := take_next l (fun x => x) i h
  simpa using this
theorem map_getD {α : Type} [Inhabited α] (l : List α) (f : α → ByteArray) (i : Nat) (h : i < l.length) : (l.map f).getD i default = f (l.getD i default) := by
  simp [List.getD_eq_getElem?_getD, List.getElem?_eq_getElem h]
theorem G1_names (s : Stn) (i : Nat) (h : i ≤ s.bu.length) : (G1 s i).es.map El.n = nm3 s i 0 0 0 := by
  simp only [G1, mkEls_names _ _ _ h, nm3, nm2, nm1, List.take_zero, List.map_nil, List.append_nil]
theorem G2_names (s : Stn) (i : Nat) (h : i ≤ s.li.length) : (G2 s i).es.map El.n = nm3 s s.bu.length i 0 0 := by
  simp only [G2, List.map_append, mkEls_names _ _ _ (Nat.le_refl s.bu.length), mkEls_names kLine (s.li.map Lin.n) i (by simpa using h), nm3, nm2, nm1, List.take_zero, List.map_nil, List.append_nil, List.map_take]
theorem G3_names (s : Stn) (i : Nat) (h : i ≤ s.so.length) : (G3 s i).es.map El.n = nm3 s s.bu.length s.li.length i 0 := by
  simp only [G3, List.map_append, mkEls_names _ _ _ (Nat.le_refl s.bu.length), mkEls_names kLine (s.li.map Lin.n) s.li.length (by simp), mkEls_names kSource (s.so.map Src.n) i (by simpa using h), nm3, nm2, nm1, List.take_zero, List.map_nil, List.append_nil, List.map_take]
theorem G4_names (s : Stn) (i : Nat) (h : i ≤ s.ba.length) : (G4 s i).es.map El.n = nm3 s s.bu.length s.li.length s.so.length i := by
  simp only [G4, List.map_append, mkEls_names _ _ _ (Nat.le_refl s.bu.length), mkEls_names kLine (s.li.map Lin.n) s.li.length (by simp), mkEls_names kSource (s.so.map Src.n) s.so.length (by simp), mkEls_names kBay (s.ba.map Bay.n) i (by simpa using h), nm3, nm2, nm1, List.map_take]
theorem step1 (s : Stn) (h : cntS s = true) : (∀ i, i < s.bu.length → buE (G1 s i) (s.bu.getD i default) = e1S s i) ∧ (∀ i, i < s.bu.length → e1S s i = 0 → buS (G1 s i) (s.bu.getD i default) = G1 s (i + 1)) := by
  have hc : s.bu.length ≤ 4 := by unfold cntS at h; simp at h; omega
  have e : ∀ i, i < s.bu.length → buE (G1 s i) (s.bu.getD i default) = e1S s i := fun i hi => by
    unfold buE e1S
    rw [show (G1 s i).bu.length = i by simp only [G1, List.length_take]; omega]
    exact entE_nmd _ _ _ i 4 (G1_names s i (by omega)) (by omega)
  refine ⟨e, fun i hi h0 => ?_⟩
  have hE : buE (G1 s i) (s.bu.getD i default) = 0 := (e i hi).trans h0
  have hl : (G1 s i).bu.length = i := by simp only [G1, List.length_take]; omega
  unfold buS
  rw [hE, entS_zero _ _ _ _ _ (show entE _ _ _ _ = 0 from hE), hl]
  simp only [G1, mkEls_succ, take_getD _ _ hi, beq_self_eq_true, cond_true]
theorem step2 (s : Stn) (h : cntS s = true) : (∀ i, i < s.li.length → liE (G2 s i) (s.li.getD i default) = e2S s i) ∧ (∀ i, i < s.li.length → e2S s i = 0 → liS (G2 s i) (s.li.getD i default) = G2 s (i + 1)) := by
  have hc : s.li.length ≤ 6 := by unfold cntS at h; simp at h; omega
  have hl : ∀ i, i < s.li.length → (G2 s i).li.length = i := fun i hi => by simp only [G2, List.length_take]; omega
  have e : ∀ i, i < s.li.length → liE (G2 s i) (s.li.getD i default) = e2S s i := fun i hi => by
    unfold liE e2S
    rw [hl i hi, show entE (G2 s i).es (s.li.getD i default).n (i : Int) 6 = nmdS (nm3 s s.bu.length i 0 0) (s.li.getD i default).n from entE_nmd _ _ _ i 6 (G2_names s i (by omega)) (by omega)]
  refine ⟨e, fun i hi h0 => ?_⟩
  have hE : liE (G2 s i) (s.li.getD i default) = 0 := (e i hi).trans h0
  have hen : entE (G2 s i).es (s.li.getD i default).n ((G2 s i).li.length : Int) 6 = 0 := by
    unfold liE orE at hE
    cases hq : (entE (G2 s i).es (s.li.getD i default).n ((G2 s i).li.length : Int) 6 == 0)
    · rw [hq, cond_false] at hE; exact hE
    · exact beq_iff_eq.1 hq
  unfold liS
  rw [hE, entS_zero _ _ _ _ _ hen, hl i hi]
  simp only [G2, mkEls_succ, take_getD _ _ hi, map_getD _ Lin.n _ hi, List.append_assoc, beq_self_eq_true, cond_true]
theorem step3 (s : Stn) (h : cntS s = true) : (∀ i, i < s.so.length → soE (G3 s i) (s.so.getD i default) = e3S s i) ∧ (∀ i, i < s.so.length → e3S s i = 0 → soS (G3 s i) (s.so.getD i default) = G3 s (i + 1)) := by
  have hc : s.so.length ≤ 4 := by unfold cntS at h; simp at h; omega
  have hl : ∀ i, i < s.so.length → (G3 s i).so.length = i := fun i hi => by simp only [G3, List.length_take]; omega
  have e : ∀ i, i < s.so.length → soE (G3 s i) (s.so.getD i default) = e3S s i := fun i hi => by
    unfold soE e3S
    rw [hl i hi, show entE (G3 s i).es (s.so.getD i default).n (i : Int) 4 = nmdS (nm3 s s.bu.length s.li.length i 0) (s.so.getD i default).n from entE_nmd _ _ _ i 4 (G3_names s i (by omega)) (by omega)]
  refine ⟨e, fun i hi h0 => ?_⟩
  have hE : soE (G3 s i) (s.so.getD i default) = 0 := (e i hi).trans h0
  have hen : entE (G3 s i).es (s.so.getD i default).n ((G3 s i).so.length : Int) 4 = 0 := by
    unfold soE orE at hE
    cases hq : (entE (G3 s i).es (s.so.getD i default).n ((G3 s i).so.length : Int) 4 == 0)
    · rw [hq, cond_false] at hE; exact hE
    · exact beq_iff_eq.1 hq
  unfold soS
  rw [hE, entS_zero _ _ _ _ _ hen, hl i hi]
  simp only [G3, mkEls_succ, take_getD _ _ hi, map_getD _ Src.n _ hi, List.append_assoc, beq_self_eq_true, cond_true]
theorem plcB_take (l : List Bay) (i : Nat) (kind of end_ : Int) (h : i ≤ l.length) : plcB (l.take i) i kind of end_ = plcB l i kind of end_ := by
  unfold plcB
  congr 1
  rw [Bool.eq_iff_iff, List.any_eq_true, List.any_eq_true]
  have e : ∀ j, j < i → (l.take i).getD j default = l.getD j default := fun j hj => by
    simp only [List.getD_eq_getElem?_getD, List.getElem?_take, if_pos hj]
  constructor
  · rintro ⟨j, hj, h1⟩; rw [e j (List.mem_range.1 hj)] at h1; exact ⟨j, hj, h1⟩
  · rintro ⟨j, hj, h1⟩; refine ⟨j, hj, ?_⟩; rw [e j (List.mem_range.1 hj)]; exact h1
theorem step4 (s : Stn) (h : cntS s = true) : (∀ i, i < s.ba.length → baE (G4 s i) (s.ba.getD i default) = e4S s i) ∧ (∀ i, i < s.ba.length → e4S s i = 0 → baS (G4 s i) (s.ba.getD i default) = G4 s (i + 1)) := by
  have hc : s.ba.length ≤ 16 := by unfold cntS at h; simp at h; omega
  have hl : ∀ i, i < s.ba.length → (G4 s i).ba.length = i := fun i hi => by simp only [G4, List.length_take]; omega
  have e : ∀ i, i < s.ba.length → baE (G4 s i) (s.ba.getD i default) = e4S s i := fun i hi => by
    unfold baE e4S
    rw [hl i hi, show entE (G4 s i).es (s.ba.getD i default).n (i : Int) 16 = nmdS (nm3 s s.bu.length s.li.length s.so.length i) (s.ba.getD i default).n from entE_nmd _ _ _ i 16 (G4_names s i (by omega)) (by omega)]
    unfold bayErr
    rw [show (G4 s i).ba = s.ba.take i from rfl, plcB_take _ _ _ _ _ (by omega)]
    rfl
  refine ⟨e, fun i hi h0 => ?_⟩
  have hE : baE (G4 s i) (s.ba.getD i default) = 0 := (e i hi).trans h0
  have hen : entE (G4 s i).es (s.ba.getD i default).n ((G4 s i).ba.length : Int) 16 = 0 := by
    unfold baE orE at hE
    cases hq : (entE (G4 s i).es (s.ba.getD i default).n ((G4 s i).ba.length : Int) 16 == 0)
    · rw [hq, cond_false] at hE; exact hE
    · exact beq_iff_eq.1 hq
  unfold baS
  rw [hE, entS_zero _ _ _ _ _ hen, hl i hi]
  simp only [G4, mkEls_succ, take_getD _ _ hi, map_getD _ Bay.n _ hi, List.append_assoc, beq_self_eq_true, cond_true]
theorem G12 (s : Stn) : G1 s s.bu.length = G2 s 0 := by
  simp only [G1, G2, List.take_length, List.take_zero, mkEls, List.range_zero, List.map_nil, List.append_nil]
theorem G23 (s : Stn) : G2 s s.li.length = G3 s 0 := by
  simp only [G2, G3, List.take_length, List.take_zero, show ∀ k l, mkEls k l 0 = [] from fun _ _ => rfl, List.append_nil]
theorem G34 (s : Stn) : G3 s s.so.length = G4 s 0 := by
  simp only [G3, G4, List.take_length, List.take_zero, show ∀ k l, mkEls k l 0 = [] from fun _ _ => rfl, List.append_nil]
theorem chk_eq (s : Stn) : chkP s = chkS s := by
  unfold chkP chkS
  cases hn : nameS s.n with
  | false => rfl
  | true =>
    cases hc : cntS s with
    | false => rfl
    | true =>
      simp only [cond_true]
      obtain ⟨a1, b1⟩ := run_first s.bu (e1S s) (G1 s) false (step1 s hc).1 (step1 s hc).2
      obtain ⟨a2, b2⟩ := run_first s.li (e2S s) (G2 s) false (step2 s hc).1 (step2 s hc).2
      obtain ⟨a3, b3⟩ := run_first s.so (e3S s) (G3 s) false (step3 s hc).1 (step3 s hc).2
      obtain ⟨a4, b4⟩ := run_first s.ba (e4S s) (G4 s) false (step4 s hc).1 (step4 s hc).2
      have h1 : (k1S s).2.2 = firstE (e1S s) s.bu.length := a1
      unfold elsP elsE
      rw [h1]
      by_cases z1 : firstE (e1S s) s.bu.length = 0
      · rw [z1, orE_z, orE_z]
        have s1 : (k1S s).1 = G2 s 0 := (b1 z1).trans (G12 s)
        have h2 : (k2S s).2.2 = firstE (e2S s) s.li.length := by unfold k2S; rw [s1]; exact a2
        rw [h2]
        by_cases z2 : firstE (e2S s) s.li.length = 0
        · rw [z2, orE_z, orE_z]
          have s2 : (k2S s).1 = G3 s 0 := by unfold k2S; rw [s1]; exact (b2 z2).trans (G23 s)
          have h3 : (k3S s).2.2 = firstE (e3S s) s.so.length := by unfold k3S; rw [s2]; exact a3
          rw [h3]
          by_cases z3 : firstE (e3S s) s.so.length = 0
          · rw [z3, orE_z, orE_z]
            have s3 : (k3S s).1 = G4 s 0 := by unfold k3S; rw [s2]; exact (b3 z3).trans (G34 s)
            unfold k4S; rw [s3]; exact a4
          · rw [orE_ne z3, orE_ne z3]
        · rw [orE_ne z2, orE_ne z2]
      · rw [orE_ne z1, orE_ne z1]
def ent_pcheck : Ent := ent1 fun s => .int .i64 (chkS s)
theorem ent_pcheck_ok : EntOk Tryd.prog 8 ent_pcheck := ent1_of _ _ fun s h => by
  rw [← chk_eq]; exact pcheck_pure s h
end Go.Proofs.YtbgnjnjnlkjicaaDoor
end
section
namespace Go.Proofs.YtbgnjnjnlkjicaaDoor
open Go.VD
set_option linter.unusedVariables false
set_option linter.unusedSimpArgs false
set_option maxRecDepth 100000
def stBase : VD.Callee := fun f ds H => bif Nat.beq f 87 then (match ds with
    | [.v (.string s)] => bif Nat.ble s.size 1000000 then some (.v (.string s), H, .no) else none
    | _ => none) else none
theorem stBase_ok : CallOk Tryd.prog stBase := by
  intro g ds H d H' t h K hk
  unfold stBase at h
  cases hg : Nat.beq g 87 with
  | false => rw [hg] at h; cases h
  | true =>
    rw [hg] at h
    have hgf : g = 87 := Nat.eq_of_beq_eq_true hg
    subst hgf
    simp only [cond_true] at h
    split at h
    · rename_i s
      cases hs : Nat.ble s.size 1000000 with
      | false => rw [hs] at h; cases h
      | true =>
        rw [hs] at h
        simp only [cond_true, Option.some.injEq, Prod.mk.injEq] at h
        obtain ⟨rfl, rfl, rfl⟩ := h
        exact .pure _ (lclone_pure s (Nat.le_of_ble_eq_true hs)) hk
    · cases h
def stText : List D := [.v (.string ⟨#[115, 116, 97, 116, 105, 111, 110, 32, 83, 59, 32, 98, 117, 115, 32, 65, 59, 32, 115, 111, 117, 114, 99, 101, 32, 71, 32, 49, 48, 48, 48, 32, 49, 32, 49, 48, 32, 50, 32, 50, 48, 59, 32, 98, 97, 121, 32, 81, 32, 115, 111, 117, 114, 99, 101, 32, 71, 32, 123, 32, 99, 116, 32, 49, 59, 32, 118, 116, 32, 49, 59, 32, 116, 114, 97, 118, 101, 108, 32, 50, 59, 32, 115, 101, 108, 101, 99, 116, 32, 65, 32, 99, 108, 111, 115, 101, 100, 59, 32, 125]⟩)]
def stItems : D := .tup [.sl 9 0 4 (.toEnd 4), .v (.int .i64 0), .v (.int .i64 0)]
def stBlocks : Heap := [some ⟨39, [.v (.string ⟨#[115, 101, 108, 101, 99, 116]⟩), .v (.bool false), .v (.string ⟨#[65]⟩), .v (.bool false), .v (.string ⟨#[99, 108, 111, 115, 101, 100]⟩), .v (.bool false)], false⟩,
  some ⟨39, [.v (.string ⟨#[116, 114, 97, 118, 101, 108]⟩), .v (.bool false), .v (.string ⟨#[50]⟩), .v (.bool false)], false⟩,
  some ⟨39, [.v (.string ⟨#[118, 116]⟩), .v (.bool false), .v (.string ⟨#[49]⟩), .v (.bool false)], false⟩,
  some ⟨39, [.v (.string ⟨#[99, 116]⟩), .v (.bool false), .v (.string ⟨#[49]⟩), .v (.bool false)], false⟩,
  some ⟨42, [.v (.int .i64 1), .sl 3 0 2 (.toEnd 2), .v (.bool false), .v (.slice none 0 0), .v (.int .i64 1), .sl 2 0 2 (.toEnd 2), .v (.bool false), .v (.slice none 0 0), .v (.int .i64 1), .sl 1 0 2 (.toEnd 2), .v (.bool false), .v (.slice none 0 0), .v (.int .i64 1), .sl 0 0 3 (.toEnd 2), .v (.bool false), .v (.slice none 0 0)], false⟩,
  some ⟨39, [.v (.string ⟨#[98, 97, 121]⟩), .v (.bool false), .v (.string ⟨#[81]⟩), .v (.bool false), .v (.string ⟨#[115, 111, 117, 114, 99, 101]⟩), .v (.bool false), .v (.string ⟨#[71]⟩), .v (.bool false)], false⟩,
  some ⟨39, [.v (.string ⟨#[115, 111, 117, 114, 99, 101]⟩), .v (.bool false), .v (.string ⟨#[71]⟩), .v (.bool false), .v (.string ⟨#[49, 48, 48, 48]⟩), .v (.bool false), .v (.string ⟨#[49]⟩), .v (.bool false), .v (.string ⟨#[49, 48]⟩), .v (.bool false), .v (.string ⟨#[50]⟩), .v (.bool false), .v (.string ⟨#[50, 48]⟩), .v (.bool false)], false⟩,
  some ⟨39, [.v (.string ⟨#[98, 117, 115]⟩), .v (.bool false), .v (.string ⟨#[65]⟩), .v (.bool false)], false⟩,
  some ⟨39, [.v (.string ⟨#[115, 116, 97, 116, 105, 111, 110]⟩), .v (.bool false), .v (.string ⟨#[83]⟩), .v (.bool false)], false⟩,
  some ⟨42, [.v (.int .i64 1), .sl 8 0 2 (.toEnd 2), .v (.bool false), .v (.slice none 0 0), .v (.int .i64 1), .sl 7 0 2 (.toEnd 2), .v (.bool false), .v (.slice none 0 0), .v (.int .i64 1), .sl 6 0 7 (.toEnd 2), .v (.bool false), .v (.slice none 0 0), .v (.int .i64 1), .sl 5 0 4 (.toEnd 2), .v (.bool true), .sl 4 0 4 (.toEnd 4)], false⟩]
theorem stParse : NamelessL stText ∧ CallJ Tryd.prog 19 stText [] stItems stBlocks :=
  made_of_ev T_ok mixed stBase_ok (N := 1000) (n := 50) Tryd.func19 rfl (by kernel_rfl)
end Go.Proofs.YtbgnjnjnlkjicaaDoor
end
section
namespace Go.Proofs.YtbgnjnjnlkjicaaDoor
open Go.VD
set_option linter.unusedVariables false
set_option linter.unusedSimpArgs false
set_option maxRecDepth 100000
theorem stKnown_pure : PureJ Tryd.prog 6 [] (.v (.bool true)) :=
  pure_of_ev T_ok mixed (litBase_ok stParse.1 stParse.2 stBase_ok) (N := 1000) (n := 50) Tryd.func6 rfl (by kernel_rfl)
def ent_stKnown : Ent := fun ds => match ds with
  | [] => some (.v (.bool true), True)
  | _ => none
theorem ent_stKnown_ok : EntOk Tryd.prog 6 ent_stKnown := by
  intro ds d c h hc; unfold ent_stKnown at h; split at h
  · obtain ⟨rfl, rfl⟩ := pair_inj h; exact stKnown_pure
  · cases h
end Go.Proofs.YtbgnjnjnlkjicaaDoor
end
section
namespace Go.Proofs.YtbgnjnjnlkjicaaDoor
open Go.VD
set_option linter.unusedVariables false
set_option linter.unusedSimpArgs false
set_option maxRecDepth 100000
def ent_large2 : Ent := fun ds => match ds with
  | [.agg [.v (.string n), .ro nb xb, .ro nl xl, .ro ns xs, .ro ny xy]] =>
    some (.v (.bool (largeS ⟨n, unBus xb, unLin xl, unSrc xs, unBay xy⟩)), StnOk ⟨n, unBus xb, unLin xl, unSrc xs, unBay xy⟩ nb nl ns ny xb xl xs xy)
  | _ => none
theorem ent_large2_ok : EntOk Tryd.prog 7 ent_large2 := ent_large_ok
def ent_chk2 : Ent := fun ds => match ds with
  | [.agg [.v (.string n), .ro nb xb, .ro nl xl, .ro ns xs, .ro ny xy]] =>
    some (.v (.int .i64 (chkS ⟨n, unBus xb, unLin xl, unSrc xs, unBay xy⟩)), StnOk ⟨n, unBus xb, unLin xl, unSrc xs, unBay xy⟩ nb nl ns ny xb xl xs xy)
  | _ => none
theorem ent_chk2_ok : EntOk Tryd.prog 8 ent_chk2 := ent_pcheck_ok
def ent_rchk2 : Ent := ent_chk2
theorem ent_rchk2_ok : EntOk Tryd.prog 9 ent_rchk2 := ent_rcheck_ok
theorem lawStn_pure (a b : Stn) (name : ByteArray) (hpre : okStn a ∧ okStn b ∧ name.size ≤ maxLen) : PureJ Tryd.prog 3 [.agg (d_stnL a), .agg (d_stnL b), .v (.string name)] (.v (.bool true)) := by
  refine pureJ_of_vcx (call := (addPure 6 ent_stKnown (addPure 7 ent_large2 (addPure 8 ent_chk2 (addPure 9 ent_rchk2 (addPure 10 ent_sameStn (addPure 11 ent_rsameStn (addPure 12 ent_name (addPure 13 ent_rname noCalls))))))))) (lp := fun _ => none) (N := 10) T_ok mixed (addPure_ok ent_stKnown_ok (addPure_ok ent_large2_ok (addPure_ok ent_chk2_ok (addPure_ok ent_rchk2_ok (addPure_ok ent_sameStn_ok (addPure_ok ent_rsameStn_ok (addPure_ok ent_name_ok (addPure_ok ent_rname_ok noCalls_ok)))))))) Tryd.func3 rfl (by decide) (by kernel_rfl) (by kernel_rfl) (LpAll.none _) (by first | exact ⟨stnD_nl a, stnD_nl b, trivial, trivial⟩ | trivial) (by first | exact ⟨stnD_nl a, stnD_nl b, trivial, trivial⟩ | trivial) ?_
  refine of_eq (B := letI z11 := (busesD (Stn.bu a)); letI z12 := (linesD (Stn.li a)); letI z1 := (Stn.mk (Stn.n a) (unBus z11) (unLin z12) (unSrc (srcsD (Stn.so a))) (unBay (baysD (Stn.ba a)))); letI z0 := (StnOk z1 (List.length (Stn.bu a)) (List.length (Stn.li a)) (List.length (Stn.so a)) (List.length (Stn.ba a)) z11 z12 (srcsD (Stn.so a)) (baysD (Stn.ba a))); letI z13 := (busesD (Stn.bu b)); letI z14 := (linesD (Stn.li b)); letI z2 := (Stn.mk (Stn.n b) (unBus z13) (unLin z14) (unSrc (srcsD (Stn.so b))) (unBay (baysD (Stn.ba b)))); letI z3 := (StnOk z2 (List.length (Stn.bu b)) (List.length (Stn.li b)) (List.length (Stn.so b)) (List.length (Stn.ba b)) z13 z14 (srcsD (Stn.so b)) (baysD (Stn.ba b))); letI z10 := Bool.true = Bool.true; letI z6 := (D.v (Value.bool Bool.true)); letI z4 := (True ∧ (True ∧ (z10 ∧ (True ∧ (True ∧ ((D.v (Value.bool Bool.false)) = z6)))))); letI z5 := ((5 : Nat) ≤ (5 : Nat)); letI z7 := ((ByteArray.size name) ≤ (9223372036854775807 : Nat)); letI z8 := (True ∧ (True ∧ (True ∧ (z6 = z6)))); letI z9 := (True ∧ (True ∧ z4)); (True ∧ (True ∧ (True ∧ (True ∧ (True ∧ (z5 ∧ (z0 ∧ (True ∧ (pcond (largeS z1) (True ∧ z8) (z5 ∧ (z3 ∧ (True ∧ (pcond (largeS z2) z8 (z5 ∧ (z0 ∧ (z5 ∧ (z0 ∧ (True ∧ (True ∧ (pcond ((chkS z1) == (chkS z1)) (z5 ∧ (z5 ∧ ((z0 ∧ z3) ∧ (z5 ∧ (z5 ∧ ((z0 ∧ z3) ∧ (True ∧ (True ∧ (True ∧ (pcond ((stnE z1 z2) == (stnE z1 z2)) (z5 ∧ (z5 ∧ ((z0 ∧ z0) ∧ (True ∧ (True ∧ (pcond (stnE z1 z1) (True ∧ (z7 ∧ (True ∧ (z7 ∧ (True ∧ (True ∧ (True ∧ (z10 ∧ (True ∧ (True ∧ ((D.v (Value.bool ((nameS name) == (nameS name)))) = z6))))))))))) z4)))))) z9)))))))))) (True ∧ (True ∧ z9))))))))))))))))))))))) (by kernel_rfl) ?_
  obtain ⟨oa, ob, hn⟩ := hpre
  have ea : okStn (Stn.mk a.n a.bu a.li a.so a.ba) := oa
  have eb : okStn (Stn.mk b.n b.bu b.li b.so b.ba) := ob
  simp only [true_and, and_true, and_self, IsInt_lit, IsBool_lit, IsStr_lit, IsSl_lit, cellN_lit, cellL_lit, Bool.not_eq_true', Bool.not_eq_false', Bool.not_true, Bool.not_false, Int.reduceLE, Int.reduceLT, Int.reduceNeg, Nat.le_refl, Int.le_refl, Nat.reduceLT, Nat.reduceLeDiff, Nat.reduceEqDiff, D.v.injEq, D.tup.injEq, D.agg.injEq, D.ro.injEq, List.cons.injEq, Value.int.injEq, Value.bool.injEq, pcond_true, pcond_false, NamelessL, Nameless, Nat.reduceMul, Nat.reduceAdd, Nat.zero_add, Int.toNat_natCast, StnOk_lit, unBus_D, unLin_D, unSrc_D, unBay_D, stn_eta]
  have A : (a.bu.length ≤ maxLen ∧ a.li.length ≤ maxLen ∧ a.so.length ≤ maxLen ∧ a.ba.length ≤ maxLen) ∧ okStn a := ⟨okStn_lens oa, oa⟩
  have B : (b.bu.length ≤ maxLen ∧ b.li.length ≤ maxLen ∧ b.so.length ≤ maxLen ∧ b.ba.length ≤ maxLen) ∧ okStn b := ⟨okStn_lens ob, ob⟩
  rw [beq_self_eq_true, beq_self_eq_true, beq_self_eq_true, stnE_self]
  exact ⟨A, pcond_intro (fun _ => trivial) (fun _ => ⟨B, pcond_intro (fun _ => trivial) (fun _ => ⟨A, A, ⟨A, B⟩, ⟨A, B⟩, A, hn, hn, rfl⟩)⟩)⟩
end Go.Proofs.YtbgnjnjnlkjicaaDoor
end
