import Derived.Test.YtfleadelfklenaaDoorZBc18
section
namespace Go.Proofs.YtfleadelfklenaaDoor
open Go.VD
set_option linter.unusedVariables false
set_option linter.unusedSimpArgs false
set_option maxRecDepth 100000
def runA {α : Type} (E : Dg → α → Int) (S : Dg → α → Dg) : List α → Dg → Bool → Dg × Bool × Int
  | [], g, f => (g, f, 0)
  | x :: r, g, f => bif E g x == 0 then runA E S r (S g x) false else (S g x, f, E g x)
theorem runA_ok {α : Type} [Inhabited α] {E : Dg → α → Int} {S : Dg → α → Dg} {l : List α} {i : Nat} {g : Dg} {f : Bool} (hi : i < l.length) (h : E g (l.getD i default) = 0) : runA E S (l.drop i) g f = runA E S (l.drop (i + 1)) (S g (l.getD i default)) false := by
  rw [List.drop_eq_getElem_cons hi]
  have e : l.getD i default = l[i] := by rw [List.getD_eq_getElem?_getD, List.getElem?_eq_getElem hi]; rfl
  rw [e] at h ⊢
  simp only [runA, h, beq_self_eq_true, cond_true]
theorem runA_err {α : Type} [Inhabited α] {E : Dg → α → Int} {S : Dg → α → Dg} {l : List α} {i : Nat} {g : Dg} {f : Bool} (hi : i < l.length) (h : E g (l.getD i default) ≠ 0) : runA E S (l.drop i) g f = (S g (l.getD i default), f, E g (l.getD i default)) := by
  rw [List.drop_eq_getElem_cons hi]
  have e : l.getD i default = l[i] := by rw [List.getD_eq_getElem?_getD, List.getElem?_eq_getElem hi]; rfl
  rw [e] at h ⊢
  simp only [runA, beq_false_of_ne h, cond_false]
theorem runA_end {α : Type} {E : Dg → α → Int} {S : Dg → α → Dg} {l : List α} {i : Nat} {g : Dg} {f : Bool} (hi : l.length ≤ i) : runA E S (l.drop i) g f = (g, f, 0) := by
  rw [List.drop_eq_nil_of_le hi]; rfl
theorem lin_eta (u : Lin) : Lin.mk u.n ⟨u.z1.r, u.z1.x⟩ ⟨u.z0.r, u.z0.x⟩ = u := rfl
theorem src_eta (u : Src) : Src.mk u.n u.emf ⟨u.z1.r, u.z1.x⟩ ⟨u.z0.r, u.z0.x⟩ = u := rfl
theorem bay1_eta (u : Bay) : Bay.mk u.n u.kind u.of u.end_ ⟨u.z.r, u.z.x⟩ u.ls u.cl u.ct u.vt u.sat u.tr = u := rfl
def entf_addBus : EntF := fun ds H => match ds with
  | [.ptr b 0, .v (.string s)] => match d_dgAt H b with
    | some r => some (.v (.int .i64 (buE r.g s)), [(b, d_dgm r.g.nm H.length (buS r.g s).bu.length r.b2 r.g.li.length r.b3 r.g.so.length r.b4 r.g.ba.length r.m), (r.b1, none), (r.m, d_mp (buS r.g s).es)], [r.b2, r.b3, r.b4], [d_b1 (buS r.g s).bu (bif buE r.g s == 0 then false else r.f1)], r.p ∧ s.size ≤ maxLen ∧ r.g.bu.length ≤ 1000)
    | none => none
  | _ => none
theorem entf_addBus_ok : EntFOk Tryd.prog 35 entf_addBus := by
  intro ds H d ups rs L p hd hc H1 heq hl; unfold entf_addBus at hd; split at hd
  · rename_i b s
    split at hd
    · rename_i r hr
      injection hd with hd
      simp only [Prod.mk.injEq] at hd
      obtain ⟨rfl, rfl, rfl, rfl, rfl⟩ := hd
      obtain ⟨hp, hs, hsm⟩ := hc
      have heq' : ∀ c ∈ dgσ r b, H1[c]? = H[c]? := fun c hc => heq c (by simp only [dgσ, List.mem_cons, List.map_cons, List.map_nil, List.not_mem_nil, or_false] at hc ⊢; omega)
      obtain ⟨hnd, w0, w1, w2, w3, w4, w5⟩ := dgAt_spec hr hp
      have key := dg_frame hr hp heq' (plain := [.v (.string s)]) (by simp [NamelessL, Nameless]) (by simp [Nameless]) (addBus_call r.g r.f1 r.f2 r.f3 r.f4 s ⟨hs, hsm⟩)
      have hfr := frH_dg (H1 := H1) (r := r) (b := b) (d_dg (buS r.g s) 6 2 3 4) none (d_b2 r.g.li r.f2) (d_b3 r.g.so r.f3) (d_b4 r.g.ba r.f4) (d_mp (buS r.g s).es) [d_b1 (buS r.g s).bu (bif buE r.g s == 0 then false else r.f1)]
      rw [show [d_dg (buS r.g s) 6 2 3 4, none, d_b2 r.g.li r.f2, d_b3 r.g.so r.f3, d_b4 r.g.ba r.f4, d_mp (buS r.g s).es, d_b1 (buS r.g s).bu (bif buE r.g s == 0 then false else r.f1)] = [d_dg (buS r.g s) 6 2 3 4, none, d_b2 r.g.li r.f2, d_b3 r.g.so r.f3, d_b4 r.g.ba r.f4, d_mp (buS r.g s).es] ++ [d_b1 (buS r.g s).bu (bif buE r.g s == 0 then false else r.f1)] from rfl, hfr] at key
      obtain ⟨g1, g2, g3, g4, g6⟩ := gO1 r b H1.length
      simp only [List.map_cons, List.map_nil, rn_dg, rn_b1, rn_b2, rn_b3, rn_b4, rn_mp, g1, g2, g3, g4, g6, setU, Option.map_none] at key
      have q2 := (heq' r.b2 (by simp [dgσ])).trans w2
      have q3 := (heq' r.b3 (by simp [dgσ])).trans w3
      have q4 := (heq' r.b4 (by simp [dgσ])).trans w4
      simp only [dgσ, List.nodup_cons, List.mem_cons, not_or, List.not_mem_nil, not_false_eq_true, and_true] at hnd
      rw [hl] at key
      rw [set_same (b := r.b2) (by rw [List.getElem?_set_ne (by omega), List.getElem?_set_ne (by omega)]; exact q2), set_same (b := r.b3) (by rw [List.getElem?_set_ne (by omega), List.getElem?_set_ne (by omega)]; exact q3), set_same (b := r.b4) (by rw [List.getElem?_set_ne (by omega), List.getElem?_set_ne (by omega)]; exact q4)] at key
      exact key
    · cases hd
  · cases hd
def entf_addLine : EntF := fun ds H => match ds with
  | [.ptr b 0, .agg [.v (.string n), .v (.int .i64 a1), .v (.int .i64 a2), .v (.int .i64 a3), .v (.int .i64 a4)]] => match d_dgAt H b with
    | some r => some (.v (.int .i64 (liE r.g (⟨n, ⟨a1, a2⟩, ⟨a3, a4⟩⟩ : Lin))), [(b, d_dgm r.g.nm r.b1 r.g.bu.length H.length (liS r.g (⟨n, ⟨a1, a2⟩, ⟨a3, a4⟩⟩ : Lin)).li.length r.b3 r.g.so.length r.b4 r.g.ba.length r.m), (r.b2, none), (r.m, d_mp (liS r.g (⟨n, ⟨a1, a2⟩, ⟨a3, a4⟩⟩ : Lin)).es)], [r.b1, r.b3, r.b4], [d_b2 (liS r.g (⟨n, ⟨a1, a2⟩, ⟨a3, a4⟩⟩ : Lin)).li (bif liE r.g (⟨n, ⟨a1, a2⟩, ⟨a3, a4⟩⟩ : Lin) == 0 then false else r.f2)], r.p ∧ n.size ≤ maxLen ∧ r.g.li.length ≤ 1000)
    | none => none
  | _ => none
theorem entf_addLine_ok : EntFOk Tryd.prog 37 entf_addLine := by
  intro ds H d ups rs L p hd hc H1 heq hl; unfold entf_addLine at hd; split at hd
  · rename_i b n a1 a2 a3 a4
    split at hd
    · rename_i r hr
      injection hd with hd
      simp only [Prod.mk.injEq] at hd
      obtain ⟨rfl, rfl, rfl, rfl, rfl⟩ := hd
      obtain ⟨hp, hs, hsm⟩ := hc
      have heq' : ∀ c ∈ dgσ r b, H1[c]? = H[c]? := fun c hc => heq c (by simp only [dgσ, List.mem_cons, List.map_cons, List.map_nil, List.not_mem_nil, or_false] at hc ⊢; omega)
      obtain ⟨hnd, w0, w1, w2, w3, w4, w5⟩ := dgAt_spec hr hp
      have key := dg_frame hr hp heq' (plain := [.agg [.v (.string n), .v (.int .i64 a1), .v (.int .i64 a2), .v (.int .i64 a3), .v (.int .i64 a4)]]) (by simp [NamelessL, Nameless]) (by simp [Nameless]) (addLine_call r.g r.f1 r.f2 r.f3 r.f4 (⟨n, ⟨a1, a2⟩, ⟨a3, a4⟩⟩ : Lin) ⟨hs, hsm⟩)
      have hfr := frH_dg (H1 := H1) (r := r) (b := b) (d_dg (liS r.g (⟨n, ⟨a1, a2⟩, ⟨a3, a4⟩⟩ : Lin)) 1 6 3 4) (d_b1 r.g.bu r.f1) none (d_b3 r.g.so r.f3) (d_b4 r.g.ba r.f4) (d_mp (liS r.g (⟨n, ⟨a1, a2⟩, ⟨a3, a4⟩⟩ : Lin)).es) [d_b2 (liS r.g (⟨n, ⟨a1, a2⟩, ⟨a3, a4⟩⟩ : Lin)).li (bif liE r.g (⟨n, ⟨a1, a2⟩, ⟨a3, a4⟩⟩ : Lin) == 0 then false else r.f2)]
      rw [show [d_dg (liS r.g (⟨n, ⟨a1, a2⟩, ⟨a3, a4⟩⟩ : Lin)) 1 6 3 4, d_b1 r.g.bu r.f1, none, d_b3 r.g.so r.f3, d_b4 r.g.ba r.f4, d_mp (liS r.g (⟨n, ⟨a1, a2⟩, ⟨a3, a4⟩⟩ : Lin)).es, d_b2 (liS r.g (⟨n, ⟨a1, a2⟩, ⟨a3, a4⟩⟩ : Lin)).li (bif liE r.g (⟨n, ⟨a1, a2⟩, ⟨a3, a4⟩⟩ : Lin) == 0 then false else r.f2)] = [d_dg (liS r.g (⟨n, ⟨a1, a2⟩, ⟨a3, a4⟩⟩ : Lin)) 1 6 3 4, d_b1 r.g.bu r.f1, none, d_b3 r.g.so r.f3, d_b4 r.g.ba r.f4, d_mp (liS r.g (⟨n, ⟨a1, a2⟩, ⟨a3, a4⟩⟩ : Lin)).es] ++ [d_b2 (liS r.g (⟨n, ⟨a1, a2⟩, ⟨a3, a4⟩⟩ : Lin)).li (bif liE r.g (⟨n, ⟨a1, a2⟩, ⟨a3, a4⟩⟩ : Lin) == 0 then false else r.f2)] from rfl, hfr] at key
      obtain ⟨g1, g2, g3, g4, g6⟩ := gO1 r b H1.length
      simp only [List.map_cons, List.map_nil, rn_dg, rn_b1, rn_b2, rn_b3, rn_b4, rn_mp, g1, g2, g3, g4, g6, setU, Option.map_none] at key
      have q1 := (heq' r.b1 (by simp [dgσ])).trans w1
      have q3 := (heq' r.b3 (by simp [dgσ])).trans w3
      have q4 := (heq' r.b4 (by simp [dgσ])).trans w4
      simp only [dgσ, List.nodup_cons, List.mem_cons, not_or, List.not_mem_nil, not_false_eq_true, and_true] at hnd
      rw [hl] at key
      rw [set_same (b := r.b1) (by rw [List.getElem?_set_ne (by omega)]; exact q1), set_same (b := r.b3) (by rw [List.getElem?_set_ne (by omega), List.getElem?_set_ne (by omega)]; exact q3), set_same (b := r.b4) (by rw [List.getElem?_set_ne (by omega), List.getElem?_set_ne (by omega)]; exact q4)] at key
      exact key
    · cases hd
  · cases hd
def entf_addSource : EntF := fun ds H => match ds with
  | [.ptr b 0, .agg [.v (.string n), .v (.int .i64 a0), .v (.int .i64 a1), .v (.int .i64 a2), .v (.int .i64 a3), .v (.int .i64 a4)]] => match d_dgAt H b with
    | some r => some (.v (.int .i64 (soE r.g (⟨n, a0, ⟨a1, a2⟩, ⟨a3, a4⟩⟩ : Src))), [(b, d_dgm r.g.nm r.b1 r.g.bu.length r.b2 r.g.li.length H.length (soS r.g (⟨n, a0, ⟨a1, a2⟩, ⟨a3, a4⟩⟩ : Src)).so.length r.b4 r.g.ba.length r.m), (r.b3, none), (r.m, d_mp (soS r.g (⟨n, a0, ⟨a1, a2⟩, ⟨a3, a4⟩⟩ : Src)).es)], [r.b1, r.b2, r.b4], [d_b3 (soS r.g (⟨n, a0, ⟨a1, a2⟩, ⟨a3, a4⟩⟩ : Src)).so (bif soE r.g (⟨n, a0, ⟨a1, a2⟩, ⟨a3, a4⟩⟩ : Src) == 0 then false else r.f3)], r.p ∧ n.size ≤ maxLen ∧ r.g.so.length ≤ 1000)
    | none => none
  | _ => none
theorem entf_addSource_ok : EntFOk Tryd.prog 39 entf_addSource := by
  intro ds H d ups rs L p hd hc H1 heq hl; unfold entf_addSource at hd; split at hd
  · rename_i b n a0 a1 a2 a3 a4
    split at hd
    · rename_i r hr
      injection hd with hd
      simp only [Prod.mk.injEq] at hd
      obtain ⟨rfl, rfl, rfl, rfl, rfl⟩ := hd
      obtain ⟨hp, hs, hsm⟩ := hc
      have heq' : ∀ c ∈ dgσ r b, H1[c]? = H[c]? := fun c hc => heq c (by simp only [dgσ, List.mem_cons, List.map_cons, List.map_nil, List.not_mem_nil, or_false] at hc ⊢; omega)
      obtain ⟨hnd, w0, w1, w2, w3, w4, w5⟩ := dgAt_spec hr hp
      have key := dg_frame hr hp heq' (plain := [.agg [.v (.string n), .v (.int .i64 a0), .v (.int .i64 a1), .v (.int .i64 a2), .v (.int .i64 a3), .v (.int .i64 a4)]]) (by simp [NamelessL, Nameless]) (by simp [Nameless]) (addSource_call r.g r.f1 r.f2 r.f3 r.f4 (⟨n, a0, ⟨a1, a2⟩, ⟨a3, a4⟩⟩ : Src) ⟨hs, hsm⟩)
      have hfr := frH_dg (H1 := H1) (r := r) (b := b) (d_dg (soS r.g (⟨n, a0, ⟨a1, a2⟩, ⟨a3, a4⟩⟩ : Src)) 1 2 6 4) (d_b1 r.g.bu r.f1) (d_b2 r.g.li r.f2) none (d_b4 r.g.ba r.f4) (d_mp (soS r.g (⟨n, a0, ⟨a1, a2⟩, ⟨a3, a4⟩⟩ : Src)).es) [d_b3 (soS r.g (⟨n, a0, ⟨a1, a2⟩, ⟨a3, a4⟩⟩ : Src)).so (bif soE r.g (⟨n, a0, ⟨a1, a2⟩, ⟨a3, a4⟩⟩ : Src) == 0 then false else r.f3)]
      rw [show [d_dg (soS r.g (⟨n, a0, ⟨a1, a2⟩, ⟨a3, a4⟩⟩ : Src)) 1 2 6 4, d_b1 r.g.bu r.f1, d_b2 r.g.li r.f2, none, d_b4 r.g.ba r.f4, d_mp (soS r.g (⟨n, a0, ⟨a1, a2⟩, ⟨a3, a4⟩⟩ : Src)).es, d_b3 (soS r.g (⟨n, a0, ⟨a1, a2⟩, ⟨a3, a4⟩⟩ : Src)).so (bif soE r.g (⟨n, a0, ⟨a1, a2⟩, ⟨a3, a4⟩⟩ : Src) == 0 then false else r.f3)] = [d_dg (soS r.g (⟨n, a0, ⟨a1, a2⟩, ⟨a3, a4⟩⟩ : Src)) 1 2 6 4, d_b1 r.g.bu r.f1, d_b2 r.g.li r.f2, none, d_b4 r.g.ba r.f4, d_mp (soS r.g (⟨n, a0, ⟨a1, a2⟩, ⟨a3, a4⟩⟩ : Src)).es] ++ [d_b3 (soS r.g (⟨n, a0, ⟨a1, a2⟩, ⟨a3, a4⟩⟩ : Src)).so (bif soE r.g (⟨n, a0, ⟨a1, a2⟩, ⟨a3, a4⟩⟩ : Src) == 0 then false else r.f3)] from rfl, hfr] at key
      obtain ⟨g1, g2, g3, g4, g6⟩ := gO1 r b H1.length
      simp only [List.map_cons, List.map_nil, rn_dg, rn_b1, rn_b2, rn_b3, rn_b4, rn_mp, g1, g2, g3, g4, g6, setU, Option.map_none] at key
      have q1 := (heq' r.b1 (by simp [dgσ])).trans w1
      have q2 := (heq' r.b2 (by simp [dgσ])).trans w2
      have q4 := (heq' r.b4 (by simp [dgσ])).trans w4
      simp only [dgσ, List.nodup_cons, List.mem_cons, not_or, List.not_mem_nil, not_false_eq_true, and_true] at hnd
      rw [hl] at key
      rw [set_same (b := r.b1) (by rw [List.getElem?_set_ne (by omega)]; exact q1), set_same (b := r.b2) (by rw [List.getElem?_set_ne (by omega)]; exact q2), set_same (b := r.b4) (by rw [List.getElem?_set_ne (by omega), List.getElem?_set_ne (by omega)]; exact q4)] at key
      exact key
    · cases hd
  · cases hd
def entf_addBay : EntF := fun ds H => match ds with
  | [.ptr b 0, .agg [.v (.string bn), .v (.int .i64 k), .v (.int .i64 o), .v (.int .i64 e), .v (.int .i64 rr), .v (.int .i64 x), .ro m ls, .v (.bool cl), .v (.int .i64 ct), .v (.int .i64 vt), .v (.int .i64 sa), .v (.int .i64 tr)]] => match d_dgAt H b with
    | some r => some (.v (.int .i64 (baE r.g (⟨bn, k, o, e, ⟨rr, x⟩, unLnk ls, cl, ct, vt, sa, tr⟩ : Bay))), [(b, d_dgm r.g.nm r.b1 r.g.bu.length r.b2 r.g.li.length r.b3 r.g.so.length H.length (baS r.g (⟨bn, k, o, e, ⟨rr, x⟩, unLnk ls, cl, ct, vt, sa, tr⟩ : Bay)).ba.length r.m), (r.b4, none), (r.m, d_mp (baS r.g (⟨bn, k, o, e, ⟨rr, x⟩, unLnk ls, cl, ct, vt, sa, tr⟩ : Bay)).es)], [r.b1, r.b2, r.b3], [d_b4 (baS r.g (⟨bn, k, o, e, ⟨rr, x⟩, unLnk ls, cl, ct, vt, sa, tr⟩ : Bay)).ba (bif baE r.g (⟨bn, k, o, e, ⟨rr, x⟩, unLnk ls, cl, ct, vt, sa, tr⟩ : Bay) == 0 then false else r.f4)], (r.p ∧ LnkOk m ls) ∧ bn.size ≤ maxLen ∧ r.g.bu.length ≤ 1000 ∧ r.g.li.length ≤ 1000 ∧ r.g.so.length ≤ 1000 ∧ r.g.ba.length ≤ 1000)
    | none => none
  | _ => none
theorem entf_addBay_ok : EntFOk Tryd.prog 41 entf_addBay := by
  intro ds H d ups rs L p hd hc H1 heq hl; unfold entf_addBay at hd; split at hd
  · rename_i b bn k o e rr x m ls cl ct vt sa tr
    split at hd
    · rename_i r hr
      injection hd with hd
      simp only [Prod.mk.injEq] at hd
      obtain ⟨rfl, rfl, rfl, rfl, rfl⟩ := hd
      obtain ⟨⟨hp, ⟨e1, e2⟩, e3⟩, hs, hsm⟩ := hc
      generalize unLnk ls = u5 at *
      subst e1; subst e2
      have heq' : ∀ c ∈ dgσ r b, H1[c]? = H[c]? := fun c hc => heq c (by simp only [dgσ, List.mem_cons, List.map_cons, List.map_nil, List.not_mem_nil, or_false] at hc ⊢; omega)
      obtain ⟨hnd, w0, w1, w2, w3, w4, w5⟩ := dgAt_spec hr hp
      have key := dg_frame hr hp heq' (plain := [.agg (d_bayL (⟨bn, k, o, e, ⟨rr, x⟩, u5, cl, ct, vt, sa, tr⟩ : Bay))]) (⟨bayD_nl _, trivial⟩) (by simp [Nameless]) (addBay_call r.g r.f1 r.f2 r.f3 r.f4 (⟨bn, k, o, e, ⟨rr, x⟩, u5, cl, ct, vt, sa, tr⟩ : Bay) ⟨⟨hs, e3⟩, hsm⟩)
      have hfr := frH_dg (H1 := H1) (r := r) (b := b) (d_dg (baS r.g (⟨bn, k, o, e, ⟨rr, x⟩, u5, cl, ct, vt, sa, tr⟩ : Bay)) 1 2 3 6) (d_b1 r.g.bu r.f1) (d_b2 r.g.li r.f2) (d_b3 r.g.so r.f3) none (d_mp (baS r.g (⟨bn, k, o, e, ⟨rr, x⟩, u5, cl, ct, vt, sa, tr⟩ : Bay)).es) [d_b4 (baS r.g (⟨bn, k, o, e, ⟨rr, x⟩, u5, cl, ct, vt, sa, tr⟩ : Bay)).ba (bif baE r.g (⟨bn, k, o, e, ⟨rr, x⟩, u5, cl, ct, vt, sa, tr⟩ : Bay) == 0 then false else r.f4)]
      rw [show [d_dg (baS r.g (⟨bn, k, o, e, ⟨rr, x⟩, u5, cl, ct, vt, sa, tr⟩ : Bay)) 1 2 3 6, d_b1 r.g.bu r.f1, d_b2 r.g.li r.f2, d_b3 r.g.so r.f3, none, d_mp (baS r.g (⟨bn, k, o, e, ⟨rr, x⟩, u5, cl, ct, vt, sa, tr⟩ : Bay)).es, d_b4 (baS r.g (⟨bn, k, o, e, ⟨rr, x⟩, u5, cl, ct, vt, sa, tr⟩ : Bay)).ba (bif baE r.g (⟨bn, k, o, e, ⟨rr, x⟩, u5, cl, ct, vt, sa, tr⟩ : Bay) == 0 then false else r.f4)] = [d_dg (baS r.g (⟨bn, k, o, e, ⟨rr, x⟩, u5, cl, ct, vt, sa, tr⟩ : Bay)) 1 2 3 6, d_b1 r.g.bu r.f1, d_b2 r.g.li r.f2, d_b3 r.g.so r.f3, none, d_mp (baS r.g (⟨bn, k, o, e, ⟨rr, x⟩, u5, cl, ct, vt, sa, tr⟩ : Bay)).es] ++ [d_b4 (baS r.g (⟨bn, k, o, e, ⟨rr, x⟩, u5, cl, ct, vt, sa, tr⟩ : Bay)).ba (bif baE r.g (⟨bn, k, o, e, ⟨rr, x⟩, u5, cl, ct, vt, sa, tr⟩ : Bay) == 0 then false else r.f4)] from rfl, hfr] at key
      obtain ⟨g1, g2, g3, g4, g6⟩ := gO1 r b H1.length
      simp only [List.map_cons, List.map_nil, rn_dg, rn_b1, rn_b2, rn_b3, rn_b4, rn_mp, g1, g2, g3, g4, g6, setU, Option.map_none] at key
      have q1 := (heq' r.b1 (by simp [dgσ])).trans w1
      have q2 := (heq' r.b2 (by simp [dgσ])).trans w2
      have q3 := (heq' r.b3 (by simp [dgσ])).trans w3
      simp only [dgσ, List.nodup_cons, List.mem_cons, not_or, List.not_mem_nil, not_false_eq_true, and_true] at hnd
      rw [hl] at key
      rw [set_same (b := r.b1) (by rw [List.getElem?_set_ne (by omega)]; exact q1), set_same (b := r.b2) (by rw [List.getElem?_set_ne (by omega)]; exact q2), set_same (b := r.b3) (by rw [List.getElem?_set_ne (by omega)]; exact q3)] at key
      exact key
    · cases hd
  · cases hd
end Go.Proofs.YtfleadelfklenaaDoor
end
