import Derived.Test.YtfleadelfklenaaGreatDoorZGw3
import Derived.KernelRfl
section
namespace Go.VD
set_option linter.unusedVariables false
set_option linter.unusedSimpArgs false
theorem hdrB_ok : ∀ (hd : List Value) (cs : List D), hdrB hd cs = true → cs = hd.map D.v ++ cs.drop hd.length
  | [], cs, _ => by simp
  | x :: xs, [], h => by simp [hdrB] at h
  | x :: xs, d :: cs, h => by
    cases d <;> simp only [hdrB, Bool.false_eq_true, Bool.and_eq_true] at h
    rename_i y
    obtain ⟨e, _⟩ := sameScalar_eq h.1
    have := hdrB_ok xs cs h.2
    simp only [List.map_cons, List.cons_append, List.length_cons, List.drop_succ_cons]
    rw [← this, e]
theorem mapAt_some {H : Heap} {b : Nat} {hd : List Value} {cs : List D} (h : mapAt H b hd = some cs) : H[b]? = some (some ⟨itTy, hd.map .v ++ cs, true⟩) := by
  unfold mapAt at h
  split at h
  · rename_i ty cs0 full hb
    cases hc : (Nat.beq ty itTy && (full && hdrB hd cs0)) with
    | false => rw [hc] at h; cases h
    | true =>
      rw [hc] at h
      simp only [cond_true, Option.some.injEq] at h
      simp only [Bool.and_eq_true] at hc
      rw [← h, ← hdrB_ok hd cs0 hc.2.2, ← Nat.eq_of_beq_eq_true hc.1]
      rw [blkRaw_some hb, hc.2.1]
  · cases h
theorem scalars_inj : ∀ (l m : List Value) (r s : List D), l.length = m.length → l.map D.v ++ r = m.map D.v ++ s → l = m ∧ r = s
  | [], [], r, s, _, h => ⟨rfl, h⟩
  | [], _ :: _, _, _, h, _ => by simp at h
  | _ :: _, [], _, _, h, _ => by simp at h
  | x :: l, y :: m, r, s, hl, h => by
    simp only [List.map_cons, List.cons_append, List.cons.injEq, D.v.injEq] at h
    obtain ⟨h1, h2⟩ := scalars_inj l m r s (by simpa using hl) h.2
    exact ⟨by rw [h.1, h1], h2⟩
theorem mapHdr_inj {ka va ka' va' : Bool} {zk zk' : List Value} {vn vn' : Nat} {r s : List D} (h : (mapHdr ka va zk vn).map D.v ++ r = (mapHdr ka' va' zk' vn').map D.v ++ s) : ka = ka' ∧ va = va' ∧ zk = zk' ∧ vn = vn' ∧ r = s := by
  simp only [mapHdr, List.map_cons, List.cons_append, List.cons.injEq, D.v.injEq, Value.bool.injEq, Value.int.injEq, true_and] at h
  obtain ⟨h1, h2, h3, h4, h5⟩ := h
  obtain ⟨h6, h7⟩ := scalars_inj zk zk' r s (by omega) h5
  exact ⟨h1, h2, h6, by omega, h7⟩
theorem cellsP_rd {E : Ctx} {agg : Bool} {o : Option D} {ys : List D} (h : cellsP agg o = some ys) : ∃ d, o = some d ∧ ∀ x, Rd E d x → RdL E ys x.cells.toList ∧ x = packV agg x.cells.toList := by
  have one : ∀ d : D, (∀ xs, d ≠ .agg xs) → cellsD d = some ys → ∀ x, Rd E d x → RdL E ys x.cells.toList ∧ x = packV false x.cells.toList := by
    intro d hd hc x hx
    have hr := cellsD_rd hc hx
    refine ⟨hr, ?_⟩
    have hl := hr.length
    have : ys.length = 1 := by
      cases d
      case agg xs => exact absurd rfl (hd xs)
      case v z =>
        simp only [cellsD] at hc
        split at hc
        · injection hc with hc; subst hc; rfl
        · cases hc
      case tup => cases hc
      all_goals (injection hc with hc; subst hc; rfl)
    cases x
    case agg us =>
      exfalso
      cases d
      case v z => simp only [Rd] at hx; subst hx; simp only [cellsD, Value.oneCell'] at hc; simp at hc
      case ro => simp only [Rd] at hx; obtain ⟨_, A, c, e, _⟩ := hx; cases e
      case rp => simp only [Rd] at hx; obtain ⟨_, A, e, _⟩ := hx; cases e
      case sl b off n c => cases c <;> simp only [Rd] at hx
                           · obtain ⟨_, _, _, A, e, _⟩ := hx; cases e
                           · obtain ⟨_, A, c, e, _⟩ := hx; cases e
      case ptr => simp only [Rd] at hx; cases hx.2
      case agg xs => exact hd xs rfl
      case tup => simp [cellsD] at hc
      case ifc t d0 =>
        simp only [Rd] at hx
        obtain ⟨y, e, _⟩ := hx
        unfold ifcV at e
        split at e
        · split at e <;> cases e
        · cases e
      case fn => simp only [Rd] at hx; obtain ⟨fs, us', e, _⟩ := hx; cases e
    all_goals rfl
  cases o with
  | none => simp [cellsP] at h
  | some d =>
    refine ⟨d, rfl, ?_⟩
    cases d
    case agg xs =>
      simp only [cellsP] at h
      cases agg with
      | false => cases h
      | true =>
        simp only [cond_true, Option.some.injEq] at h
        subst h
        intro x hx
        simp only [Rd] at hx
        obtain ⟨us, rfl, hl⟩ := hx
        exact ⟨hl, by simp [packV, Value.cells]⟩
    case tup => simp [cellsP] at h
    all_goals
      simp only [cellsP] at h
      cases agg with
      | true => cases h
      | false =>
        simp only [cond_false] at h
        exact one _ (by intro xs e; cases e) h
section
variable {P : Program} {T : Tbl} (hT : TblOk P T) {ρ : Nat → Nat × Nat} {S : Nat → Prop} {w : World} {H : Heap}
theorem mapTI_some {t : TypeId} {a e : TI} (hT : TblOk P T) (h : mapTI T (T t) = some (a, e)) : ∃ kt et, P.underlying t = some (.map kt et) ∧ TiOk P kt a ∧ TiOk P et e ∧ keyOk a = true ∧ (e.td.isAgg = false → e.size = 1) := by
  unfold mapTI at h
  split at h
  · rename_i k el _ _ _ ht
    split at h
    · rename_i a' e' ha he
      cases hk : (keyOk a' && (e'.td.isAgg || Nat.beq e'.size 1)) with
      | false => rw [hk] at h; cases h
      | true =>
        rw [hk] at h
        simp only [cond_true, Option.some.injEq, Prod.mk.injEq] at h
        obtain ⟨rfl, rfl⟩ := h
        simp only [Bool.and_eq_true, Bool.or_eq_true] at hk
        exact ⟨k, el, (hT.ok t _ ht).map rfl, hT.ok k _ ha, hT.ok el _ he, hk.1, fun hf => by
          rcases hk.2 with h | h
          · rw [hf] at h; cases h
          · exact Nat.eq_of_beq_eq_true h⟩
    · cases h
  · cases h
theorem keyOk_spec {kt : TypeId} {a : TI} (ha : TiOk P kt a) (hk : keyOk a = true) : a.td.isAgg = false ∧ a.zero.length = 1 ∧ ∃ kind, P.underlying kt = some kind ∧
    ∀ us, kindsB a.zero us = true → ∃ u, us = [u] ∧ u.oneCell' = true ∧ (∀ emp n w, (Instr.checkKey emp (n + 1) kt u).run P w = .ok () w) ∧ Instr.sameBits 10000 u u = true ∧
      ∀ vs, kindsB a.zero vs = true → ∃ v, vs = [v] ∧ ∃ b, Instr.sameNow kind u v = some b ∧ (b = true ↔ v = u) := by
  have sing : ∀ (z : Value) (us : List Value), kindsB [z] us = true → ∃ u, us = [u] ∧ kindB z u = true := fun z us h => by
    cases us with
    | nil => simp [kindsB] at h
    | cons u r =>
      cases r with
      | nil => exact ⟨u, rfl, by simpa [kindsB] using h⟩
      | cons v r => simp [kindsB] at h
  unfold keyOk at hk
  split at hk
  · rename_i k l n htd hz
    have hu := ha.int htd
    refine ⟨by rw [htd]; rfl, by rw [hz]; rfl, _, hu, fun us hus => ?_⟩
    rw [hz] at hus
    obtain ⟨u, rfl, hk1⟩ := sing _ _ hus
    cases u <;> simp only [kindB, Bool.false_eq_true] at hk1
    rename_i k1 m
    refine ⟨_, rfl, rfl, fun emp n w => by simp [Instr.checkKey, run_underlying hu], by simp [Instr.sameBits], fun vs hvs => ?_⟩
    rw [hz] at hvs
    obtain ⟨v, rfl, hk2⟩ := sing _ _ hvs
    cases v <;> simp only [kindB, Bool.false_eq_true] at hk2
    rename_i k2 m2
    have e1 : l = k1 := by simpa using hk1
    have e2 : l = k2 := by simpa using hk2
    subst e1; subst e2
    exact ⟨_, rfl, m == m2, by simp only [Instr.sameNow, if_true], by simp only [beq_iff_eq, Value.int.injEq, true_and]; exact eq_comm⟩
  · rename_i s htd hz
    have hu := ha.str htd
    refine ⟨by rw [htd]; rfl, by rw [hz]; rfl, _, hu, fun us hus => ?_⟩
    rw [hz] at hus
    obtain ⟨u, rfl, hk1⟩ := sing _ _ hus
    cases u <;> simp only [kindB, Bool.false_eq_true] at hk1
    rename_i m
    refine ⟨_, rfl, rfl, fun emp n w => by simp [Instr.checkKey, run_underlying hu], by simp only [Instr.sameBits]; exact bytes_eq_iff.2 rfl, fun vs hvs => ?_⟩
    rw [hz] at hvs
    obtain ⟨v, rfl, hk2⟩ := sing _ _ hvs
    cases v <;> simp only [kindB, Bool.false_eq_true] at hk2
    rename_i m2
    exact ⟨_, rfl, m == m2, by simp only [Instr.sameNow], by simp only [bytes_eq_iff, Value.string.injEq]; exact eq_comm⟩
  · rename_i s htd hz
    have hu := ha.bool htd
    refine ⟨by rw [htd]; rfl, by rw [hz]; rfl, _, hu, fun us hus => ?_⟩
    rw [hz] at hus
    obtain ⟨u, rfl, hk1⟩ := sing _ _ hus
    cases u <;> simp only [kindB, Bool.false_eq_true] at hk1
    rename_i m
    refine ⟨_, rfl, rfl, fun emp n w => by simp [Instr.checkKey, run_underlying hu], by simp [Instr.sameBits], fun vs hvs => ?_⟩
    rw [hz] at hvs
    obtain ⟨v, rfl, hk2⟩ := sing _ _ hvs
    cases v <;> simp only [kindB, Bool.false_eq_true] at hk2
    rename_i m2
    exact ⟨_, rfl, m == m2, by simp only [Instr.sameNow], by simp only [beq_iff_eq, Value.bool.injEq]; exact eq_comm⟩
  · cases hk
structure MapNow (P : Program) (E : Ctx) (o : Option Obj) (a e : TI) (cs : List D) (es : Array MapEntry) (clock : Nat) (ents : List (List Value × List Value)) (l : List (List D)) : Prop where
  obj : o = some (.map es clock)
  perm : (es.toList.map fun e => (e.key, e.val)).Perm (ents.map fun p => (packV a.td.isAgg p.1, packV e.td.isAgg p.2))
  ok : ∀ p ∈ ents, kindsB a.zero p.1 = true ∧ p.2.length = e.size
  nd : ents.Pairwise fun p q => p.1 ≠ q.1
  born : (∀ e ∈ es.toList, e.born < clock) ∧ es.toList.Pairwise fun e f => e.born ≠ f.born
  cs : cs = l.flatten
  rd : RdLs E l (ents.map fun p => p.1 ++ p.2)
  len : ∀ c ∈ l, c.length = a.zero.length + e.size
theorem map_now (hS : St ρ S w H) {b : Nat} {a e : TI} {cs : List D} (h : mapAt H b (hdrOf a e) = some cs) : 0 < (ρ b).2 ∧ ∃ es clock ents l, MapNow P (ctx ρ S w H) w.heap[(ρ b).1]? a e cs es clock ents l := by
  have hb := mapAt_some h
  have hz : 0 < (ρ b).2 := by
    refine Nat.pos_of_ne_zero fun h0 => ?_
    have := hS.none b _ hb h0
    simp [hdrOf, mapHdr] at this
  refine ⟨hz, ?_⟩
  obtain ⟨cur, hk⟩ := hS.blk b _ hb hz
  obtain ⟨ka, va, zk, vn, ents, hm⟩ := hk.heap.map rfl (r := (hdrOf a e).tail.map D.v ++ cs) rfl
  obtain ⟨r, hr⟩ := hm.cs
  obtain ⟨rfl, rfl, rfl, rfl, rfl⟩ := mapHdr_inj hr
  obtain ⟨es, clock, ho, hp, hb1, hb2⟩ := hm.obj
  have hpre := hk.pre
  have hfull : ((hdrOf a e).map D.v ++ cs).length = cur.size := hk.full rfl
  rw [List.take_of_length_le (by simp only [Array.length_toList]; omega), hm.cur] at hpre
  have h2 : RdL (ctx ρ S w H) cs (ents.flatMap fun p => p.1 ++ p.2) := by
    have := hpre.drop (hdrOf a e).length
    rwa [List.drop_left' (by simp), show (hdrOf a e).length = (mapHdr a.td.isAgg e.td.isAgg a.zero e.size).length from rfl, List.drop_left' rfl] at this
  rw [List.flatMap_def] at h2
  obtain ⟨l, hl, hrd⟩ := RdLs.split _ _ h2
  exact ⟨es, clock, ents, l, ho, hp, hm.ok, hm.nd, ⟨hb1, hb2⟩, hl, hrd, RdLs.lengths l _ _ hrd (by
    intro u hu
    obtain ⟨p, hp, rfl⟩ := List.mem_map.1 hu
    rw [List.length_append, kindsB_length _ _ (hm.ok p hp).1, (hm.ok p hp).2])⟩
theorem find_among {E : Ctx} {zk us : List Value} {vn : Nat} (hus : kindsB zk us = true) : ∀ (ents : List (List Value × List Value)) (l : List (List D)), RdLs E l (ents.map fun p => p.1 ++ p.2) → (∀ p ∈ ents, kindsB zk p.1 = true ∧ p.2.length = vn) →
    (∃ p ∈ ents, p.1 = us ∧ (l.any fun c => keyEq zk (us.map D.v) c) = true ∧ ∃ c, (l.find? fun c => keyEq zk (us.map D.v) c) = some c ∧ RdL E (c.drop zk.length) p.2) ∨
    ((∀ p ∈ ents, p.1 ≠ us) ∧ (l.any fun c => keyEq zk (us.map D.v) c) = false ∧ (l.find? fun c => keyEq zk (us.map D.v) c) = none)
  | [], [], _, _ => .inr ⟨by simp, rfl, rfl⟩
  | [], c :: l, h, _ => by simp [RdLs] at h
  | p :: ents, [], h, _ => by simp [RdLs] at h
  | p :: ents, c :: l, h, hok => by
    simp only [RdLs, List.map_cons, List.cons.injEq] at h
    obtain ⟨_, _, ⟨rfl, rfl⟩, h1, h2⟩ := h
    obtain ⟨hp1, hp2⟩ := hok p (by simp)
    have hlen := kindsB_length _ _ hp1
    have hc1 : RdL E (c.take zk.length) p.1 := by
      have := h1.take zk.length
      rwa [List.take_left' hlen] at this
    have hc2 : RdL E (c.drop zk.length) p.2 := by
      have := h1.drop zk.length
      rwa [List.drop_left' hlen] at this
    have hcs : c = p.1.map D.v ++ c.drop zk.length := by
      have := rd_kinds _ _ _ hp1 hc1
      rw [← this, List.take_append_drop]
    have hkey : keyEq zk (us.map D.v) c = true ↔ us = p.1 := by
      have := keyEq_iff zk us p.1 (c.drop zk.length) hus hp1
      rwa [← hcs] at this
    by_cases he : us = p.1
    · refine .inl ⟨p, by simp, he.symm, ?_, c, ?_, hc2⟩
      · simp only [List.any_cons, hkey.2 he, Bool.true_or]
      · simp only [List.find?_cons, hkey.2 he]
    · have hf : keyEq zk (us.map D.v) c = false := Bool.eq_false_iff.2 fun h => he (hkey.1 h)
      rcases find_among hus ents l h2 (fun p hp => hok p (by simp [hp])) with ⟨q, h3, h4, h5, c', h6, h7⟩ | ⟨h3, h4, h5⟩
      · exact .inl ⟨q, by simp [h3], h4, by simp only [List.any_cons, hf, Bool.false_or, h5], c', by simp only [List.find?_cons, hf, h6], h7⟩
      · refine .inr ⟨fun q hq => ?_, by simp only [List.any_cons, hf, Bool.false_or, h4], by simp only [List.find?_cons, hf, h5]⟩
        rcases List.mem_cons.1 hq with rfl | hq
        · exact fun e => he e.symm
        · exact h3 q hq
theorem ents_unique {ents : List (List Value × List Value)} (nd : ents.Pairwise fun p q => p.1 ≠ q.1) : ∀ p q, p ∈ ents → q ∈ ents → p.1 = q.1 → p = q := by
  induction nd with
  | nil => intro p q h; cases h
  | cons h1 h2 ih =>
    intro p q hp hq e
    rcases List.mem_cons.1 hp with h3 | h3 <;> rcases List.mem_cons.1 hq with h4 | h4
    · rw [h3, h4]
    · exact absurd (by rw [← h3]; exact e) (h1 q h4)
    · exact absurd (by rw [← h4]; exact e.symm) (h1 p h3)
    · exact ih p q h3 h4 e
theorem map_find {E : Ctx} {o : Option Obj} {kt : TypeId} {a e : TI} {cs : List D} {es : Array MapEntry} {clock : Nat} {ents : List (List Value × List Value)} {l : List (List D)} (hm : MapNow P E o a e cs es clock ents l) (ha : TiOk P kt a) (hk : keyOk a = true)
    {us : List Value} (hus : kindsB a.zero us = true) (w : World) :
    (∃ p ∈ ents, p.1 = us ∧ mHas a.zero e.size (us.map D.v) cs = true ∧ (∃ c, mGet a.zero e.size (us.map D.v) cs = some c ∧ RdL E c p.2) ∧ ∃ i f, es.toList[i]? = some f ∧ f.key = packV a.td.isAgg us ∧ f.val = packV e.td.isAgg p.2 ∧
      (Instr.findKey kt (packV a.td.isAgg us) es.toList).run P w = .ok (some (i, f.val)) w) ∨
    ((∀ p ∈ ents, p.1 ≠ us) ∧ mHas a.zero e.size (us.map D.v) cs = false ∧ mGet a.zero e.size (us.map D.v) cs = none ∧ (Instr.findKey kt (packV a.td.isAgg us) es.toList).run P w = .ok none w) := by
  obtain ⟨hagg, hz1, kind, hkind, hkeys⟩ := keyOk_spec ha hk
  obtain ⟨u, rfl, hu1, hu2, hu3, hu4⟩ := hkeys us hus
  have hw : 0 < a.zero.length + e.size := by omega
  have hents : mEnts (a.zero.length + e.size) cs = l := by rw [hm.cs]; exact mEnts_flat hw hm.len
  have hpk : packV a.td.isAgg [u] = u := by rw [hagg]; rfl
  have hkey : ∀ f ∈ es.toList, ∃ p ∈ ents, f.key = packV a.td.isAgg p.1 ∧ f.val = packV e.td.isAgg p.2 := fun f hf => by
    have : (f.key, f.val) ∈ ents.map fun p => (packV a.td.isAgg p.1, packV e.td.isAgg p.2) := hm.perm.subset (List.mem_map.2 ⟨f, hf, rfl⟩)
    obtain ⟨p, hp, he⟩ := List.mem_map.1 this
    simp only [Prod.mk.injEq] at he
    exact ⟨p, hp, he.1.symm, he.2.symm⟩
  have hone : ∀ p ∈ ents, ∃ v, p.1 = [v] ∧ packV a.td.isAgg p.1 = v := fun p hp => by
    obtain ⟨v, h1, _⟩ := hu4 p.1 (hm.ok p hp).1
    exact ⟨v, h1, by rw [h1, hagg]; rfl⟩
  have hspec := findKey_spec (P := P) (w := w) hkind (packV a.td.isAgg [u]) es.toList (.inl fun f hf => by
    obtain ⟨p, hp, h1, _⟩ := hkey f hf
    obtain ⟨v, h2, b, h3, h4⟩ := hu4 p.1 (hm.ok p hp).1
    have h5 : f.key = v := by rw [h1, h2, hagg]; rfl
    rw [hpk, h5]
    exact ⟨b, h3, h4⟩)
  have hmh : mHas a.zero e.size ([u].map D.v) cs = l.any fun c => keyEq a.zero ([u].map D.v) c := by unfold mHas; rw [hents]
  have hmg : mGet a.zero e.size ([u].map D.v) cs = (l.find? fun c => keyEq a.zero ([u].map D.v) c).map (·.drop a.zero.length) := by unfold mGet; rw [hents]
  rcases find_among hus ents l hm.rd hm.ok with ⟨p, h1, h2, h3, c, h4, h5⟩ | ⟨h1, h2, h3⟩
  · refine .inl ⟨p, h1, h2, by rw [hmh, h3], ⟨_, by rw [hmg, h4]; rfl, h5⟩, ?_⟩
    have hin : (packV a.td.isAgg p.1, packV e.td.isAgg p.2) ∈ es.toList.map fun e => (e.key, e.val) := hm.perm.symm.subset (List.mem_map.2 ⟨p, h1, rfl⟩)
    obtain ⟨g, hg, hge⟩ := List.mem_map.1 hin
    simp only [Prod.mk.injEq] at hge
    rcases hspec with ⟨i, f, h6, h7, h8⟩ | ⟨h6, _⟩
    · refine ⟨i, f, h6, h7, ?_, h8⟩
      obtain ⟨q, hq, hq1, hq2⟩ := hkey f (List.mem_of_getElem? h6)
      have : q = p := ents_unique hm.nd q p hq h1 (by
        obtain ⟨v, hv1, hv2⟩ := hone q hq
        rw [h2, hv1]
        rw [hq1, hv2, hpk] at h7
        rw [h7])
      rw [hq2, this]
    · exact absurd (by rw [hge.1, h2]) (h6 g hg)
  · refine .inr ⟨h1, by rw [hmh, h2], by rw [hmg, h3]; rfl, ?_⟩
    rcases hspec with ⟨i, f, h6, h7, _⟩ | ⟨_, h7⟩
    · obtain ⟨q, hq, hq1, _⟩ := hkey f (List.mem_of_getElem? h6)
      obtain ⟨v, hv1, hv2⟩ := hone q hq
      rw [hq1, hv2, hpk] at h7
      exact absurd (by rw [hv1, h7]) (h1 q hq)
    · exact h7
theorem valD_rd {E : Ctx} {et : TypeId} {e : TI} (he : TiOk P et e) {vs : List D} {us : List Value} (hv : RdL E vs us) (hl : us.length = e.size) (hc : valC e vs) (hone : e.td.isAgg = false → e.size = 1) : Rd E (valD e vs) (packV e.td.isAgg us) := by
  have hz := he.len
  have hvl := hv.length
  have hr : cellsZC e.zero vs 0 → RdL E (cellsZ e.zero vs 0) us := fun hc => cellsZ_rd e.zero vs 0 us (by omega) hc (by rw [List.drop_zero, List.take_of_length_le (by omega)]; exact hv)
  have one : e.td.isAgg = false → cellsZC e.zero vs 0 → Rd E ((cellsZ e.zero vs 0).headD default) (packV false us) := fun hagg hc => by
    have hr := hr hc
    have h1 := hone hagg
    cases us with
    | nil => simp only [List.length_nil] at hl; omega
    | cons u r =>
      cases hcz : cellsZ e.zero vs 0 with
      | nil => rw [hcz] at hr; simp [RdL] at hr
      | cons d ds =>
        rw [hcz] at hr
        simp only [RdL, List.cons.injEq] at hr
        obtain ⟨_, _, ⟨rfl, rfl⟩, _, hd, _⟩ := hr
        exact hd
  unfold valD
  unfold valC at hc
  cases hs : isSlc e with
  | false =>
    rw [hs] at hc
    simp only [cond_false] at hc ⊢
    cases hagg : e.td.isAgg with
    | true => unfold packV; simp only [cond_true, Rd]; exact ⟨_, rfl, by simpa using hr hc⟩
    | false => exact one hagg hc
  | true =>
    rw [hs] at hc
    have hagg := isSlc_agg hs
    rw [hagg]
    simp only [cond_false, cond_true] at hc ⊢
    cases hb : rawB (vs.headD default) with
    | false => rw [hb] at hc; exact one hagg hc
    | true =>
      simp only [cond_true]
      have h1 := hone hagg
      cases us with
      | nil => simp only [List.length_nil] at hl; omega
      | cons u r =>
        cases vs with
        | nil => simp [RdL] at hv
        | cons d ds =>
          simp only [RdL, List.cons.injEq] at hv
          obtain ⟨_, _, ⟨rfl, rfl⟩, _, hd, _⟩ := hv
          exact hd
theorem packV_of {z : Value} {agg : Bool} {us : List Value} (h : isAggV z = agg) (h1 : z.cells.toList = us) : z = packV agg us := by
  subst h; subst h1
  cases z <;> simp [isAggV, packV, Value.cells]
theorem zero_rd {E : Ctx} {et : TypeId} {e : TI} (he : TiOk P et e) {z : Value} (h1 : z.cells.toList = e.zero) (h2 : isAggV z = e.td.isAgg) {vs : List D} (hc : valC e vs) (hv : vs = e.zero.map .v) (hone : e.td.isAgg = false → e.size = 1) : Rd E (valD e (e.zero.map .v)) z := by
  rw [packV_of h2 h1]
  refine valD_rd he (RdL.scalars _ _ ?_) he.len (by rw [← hv]; exact hc) hone
  rw [List.all_eq_true]; exact he.one
theorem rd_map {b : Nat} {u : Value} (h : Rd (ctx ρ S w H) (.ifc itTy (.ptr b 0)) u) : u = .map (some (ρ b).1) := by
  simp only [Rd] at h
  obtain ⟨x, rfl, _, rfl⟩ := h
  exact ifcV_map _
theorem run_getObj_map {P : Program} {w : World} {r : Nat} {es : Array MapEntry} {c : Nat} (h : w.heap[r]? = some (.map es c)) : (getObj r).run P w = .ok (.map es c) w := by
  simp [getObj, Sem.run, h]
theorem run_setObj_map {P : Program} {w : World} {r : Nat} {es : Array MapEntry} {c : Nat} (o : Obj) (h : w.heap[r]? = some (.map es c)) : (setObj r o).run P w = .ok () { w with heap := w.heap.setIfInBounds r o } := by
  simp [setObj, Sem.run, h]
theorem key_now {kt : TypeId} {a : TI} (ha : TiOk P kt a) (hk : keyOk a = true) {k : Operand} {ev : Operand → Value} {kd : List D} {o : Option D} (ho : cellsP a.td.isAgg o = some kd) (hg : ∀ d, o = some d → Rd (ctx ρ S w H) d (ev k)) (hc : keyC a.zero kd) :
    ∃ us, kindsB a.zero us = true ∧ kd = us.map D.v ∧ ev k = packV a.td.isAgg us ∧ (∀ emp w, (Instr.checkKey emp 10000 kt (ev k)).run P w = .ok () w) ∧ Instr.sameBits 10000 (ev k) (ev k) = true := by
  obtain ⟨d, hd, hx⟩ := cellsP_rd ho
  obtain ⟨hr, hp⟩ := hx _ (hg d hd)
  obtain ⟨h1, h2⟩ := keyC_kinds _ _ _ hc hr
  obtain ⟨hagg, _, kind, _, hkeys⟩ := keyOk_spec ha hk
  obtain ⟨u, hu, hu1, hu2, hu3, _⟩ := hkeys _ h1
  have e : ev k = u := by rw [hp, hu, hagg]; rfl
  exact ⟨_, h1, h2, hp, fun emp w => by rw [e]; exact hu2 emp _ w, by rw [e]; exact hu3⟩
include hT in
theorem lookup_sound {t : TypeId} {m k : Operand} {ok : Bool} {a : Act} {dm dk : Option D} {out : HOut} {dst : Option Tmp} {ty : TypeId} {pos : String} {after : Array Edge} {guard : Option (Nat × Bool)} (h : lookupH T H (T t) (fun g => cellsP g dk) ok dm = some out) (hc : out.c) (hS : St ρ S w H)
    (hgm : ∀ d, dm = some d → Rd (ctx ρ S w H) d (a.eval m)) (hgk : ∀ d, dk = some d → Rd (ctx ρ S w H) d (a.eval k)) : Gives P ⟨dst, .lookup t m k ok, ty, pos, after, guard⟩ a ρ S w H out.H out.d := by
  have fin : ∀ (e : TI) (v : Value) (d : D) (f : Bool), Rd (ctx ρ S w H) d v → Rd (ctx ρ S w H) (bif ok then .tup [d, .v (.bool f)] else d) (if ok then .tuple #[v, .bool f] else v) := by
    intro e v d f hv
    cases ok with
    | true => simp only [cond_true, if_true, Rd, RdT]; exact ⟨_, rfl, v, _, rfl, hv, _, _, rfl, rfl, rfl⟩
    | false => simpa using hv
  unfold lookupH at h
  split at h
  · rename_i ity b
    split at h
    · rename_i ta te ht
      obtain ⟨kt, et, hund, hka, hte, hko, hone⟩ := mapTI_some hT ht
      split at h
      · rename_i cs kd hcs hk
        cases hb : Nat.beq ity itTy with
        | false => rw [hb] at h; cases h
        | true =>
          rw [hb] at h
          simp only [cond_true, Option.some.injEq] at h
          have hity : ity = itTy := Nat.eq_of_beq_eq_true hb
          subst hity; subst h
          obtain ⟨hz, es, clock, ents, l, hmn⟩ := map_now (P := P) hS hcs
          have hmv := rd_map (hgm _ rfl)
          obtain ⟨us, hus, rfl, hkv, hck, _⟩ := key_now (P := P) hka hko (k := k) (ev := a.eval) hk hgk hc.1
          obtain ⟨z, hz1, hz3, hz2⟩ := hte.run_zero'
          have hobj : w.heap[(ρ b).1]? = some (.map es clock) := hmn.obj
          rcases map_find hmn hka hko hus w with ⟨p, hp, hp1, hhas, ⟨c, hget, hrd⟩, i, f, hf1, hf2, hf3, hrun⟩ | ⟨hno, hhas, hget, hrun⟩
          · have hval : mVal ta.zero te.size te.zero (us.map D.v) cs = c := by unfold mVal; rw [hget]; rfl
            refine ⟨if ok then .tuple #[packV te.td.isAgg p.2, .bool true] else packV te.td.isAgg p.2, w, ρ, .inl ?_, hS, Ctx.le.refl _, ?_⟩
            · rw [← hkv] at hrun
              simp [execOp, Instr.lookup, run_underlying hund, hmv, run_getObj_map hobj, hck, hrun, hf3]
            · rw [hhas, hval]
              refine fin te _ _ true (valD_rd hte hrd (hmn.ok p hp).2 ?_ hone)
              have := hc.2; rwa [hval] at this
          · have hval : mVal ta.zero te.size te.zero (us.map D.v) cs = te.zero.map .v := by unfold mVal; rw [hget]; rfl
            refine ⟨if ok then .tuple #[z, .bool false] else z, w, ρ, .inl ?_, hS, Ctx.le.refl _, ?_⟩
            · rw [← hkv] at hrun
              simp [execOp, Instr.lookup, run_underlying hund, hmv, run_getObj_map hobj, hck, hrun, hz2]
            · rw [hhas, hval]
              refine fin te _ _ false ?_
              exact zero_rd hte hz1 hz3 hc.2 hval hone
      · cases h
    · cases h
  · split at h
    · rename_i ta te ht
      obtain ⟨kt, et, hund, hka, hte, hko, hone⟩ := mapTI_some hT ht
      split at h
      · rename_i kd hk
        injection h with h; subst h
        have hmv : a.eval m = .map none := by have := hgm _ rfl; simpa only [Rd] using this
        obtain ⟨us, hus, rfl, hkv, hck, _⟩ := key_now (P := P) hka hko (k := k) (ev := a.eval) hk hgk hc.1
        obtain ⟨z, hz1, hz3, hz2⟩ := hte.run_zero'
        obtain ⟨_, _, kind, hkind, _⟩ := keyOk_spec hka hko
        refine ⟨if ok then .tuple #[z, .bool false] else z, w, ρ, .inl ?_, hS, Ctx.le.refl _, ?_⟩
        · simp [execOp, Instr.lookup, run_underlying hund, hmv, hck, hz2, Instr.findKey, run_underlying hkind, Instr.findNow]
        · exact fin te _ _ false (zero_rd hte hz1 hz3 hc.2 rfl hone)
      · cases h
    · cases h
  · cases h
theorem modify_list (es : Array MapEntry) (i : Nat) (g : MapEntry → MapEntry) : (es.modify i g).toList = es.toList.modify i g := by
  simp
open Classical in
theorem modify_mem : ∀ (es : List MapEntry) (i : Nat) (f : MapEntry) (val : Value), es[i]? = some f → (es.map (·.key)).Nodup →
    ((es.modify i fun e => { e with key := f.key, val }).map fun e => (e.key, e.val)) = (es.map fun e => (e.key, e.val)).map fun q => (q.1, if q.1 = f.key then val else q.2)
  | [], i, f, val, h, _ => by simp at h
  | e :: es, 0, f, val, h, hn => by
    simp only [List.getElem?_cons_zero, Option.some.injEq] at h
    subst h
    simp only [List.map_cons, List.nodup_cons, List.mem_map, not_exists, not_and] at hn
    simp only [List.modify_zero_cons, List.map_cons, if_true, List.map_map, List.cons.injEq, true_and]
    refine List.map_congr_left fun x hx => ?_
    simp only [Function.comp]
    rw [if_neg fun h => hn.1 x hx h]
  | e :: es, i + 1, f, val, h, hn => by
    simp only [List.getElem?_cons_succ] at h
    simp only [List.map_cons, List.nodup_cons, List.mem_map, not_exists, not_and] at hn
    simp only [List.modify_succ_cons, List.map_cons]
    rw [modify_mem es i f val h hn.2, if_neg fun h2 => hn.1 f (List.mem_of_getElem? h) h2.symm]
theorem modify_born (val k : Value) : ∀ (es : List MapEntry) (i : Nat), (es.modify i fun e => { e with key := k, val }).map (·.born) = es.map (·.born)
  | [], i => by simp
  | e :: es, 0 => by simp
  | e :: es, i + 1 => by simp [modify_born val k es i]
theorem born_mod {es : List MapEntry} {clock : Nat} {es' : List MapEntry} (h : es'.map (·.born) = es.map (·.born)) (h1 : ∀ e ∈ es, e.born < clock) (h2 : es.Pairwise fun e f => e.born ≠ f.born) : (∀ e ∈ es', e.born < clock) ∧ es'.Pairwise fun e f => e.born ≠ f.born := by
  have g1 : ∀ n ∈ es.map (·.born), n < clock := by
    intro n hn
    obtain ⟨e, he, rfl⟩ := List.mem_map.1 hn
    exact h1 e he
  have g2 : (es.map (·.born)).Pairwise (· ≠ ·) := List.pairwise_map.2 h2
  rw [← h] at g1 g2
  exact ⟨fun e he => g1 _ (List.mem_map.2 ⟨e, he, rfl⟩), List.pairwise_map.1 g2⟩
open Classical in
theorem put_among {E : Ctx} {zk us : List Value} {val : List D} {vs : List Value} (hus : kindsB zk us = true) (hv : RdL E val vs) : ∀ (ents : List (List Value × List Value)) (l : List (List D)), RdLs E l (ents.map fun p => p.1 ++ p.2) → (∀ p ∈ ents, kindsB zk p.1 = true) →
    RdL E (l.flatMap fun c => bif keyEq zk (us.map D.v) c then c.take zk.length ++ val else c) ((ents.map fun p => (p.1, if p.1 = us then vs else p.2)).flatMap fun p => p.1 ++ p.2)
  | [], [], _, _ => by simp [RdL]
  | [], c :: l, h, _ => by simp [RdLs] at h
  | p :: ents, [], h, _ => by simp [RdLs] at h
  | p :: ents, c :: l, h, hok => by
    simp only [RdLs, List.map_cons, List.cons.injEq] at h
    obtain ⟨_, _, ⟨rfl, rfl⟩, h1, h2⟩ := h
    have hp1 := hok p (by simp)
    have hlen := kindsB_length _ _ hp1
    have hc1 : RdL E (c.take zk.length) p.1 := by
      have := h1.take zk.length
      rwa [List.take_left' hlen] at this
    have hcs : c = p.1.map D.v ++ c.drop zk.length := by
      have := rd_kinds _ _ _ hp1 hc1
      rw [← this, List.take_append_drop]
    have hkey : keyEq zk (us.map D.v) c = true ↔ us = p.1 := by
      have := keyEq_iff zk us p.1 (c.drop zk.length) hus hp1
      rwa [← hcs] at this
    simp only [List.flatMap_cons, List.map_cons]
    refine RdL.append _ _ _ _ ?_ (put_among hus hv ents l h2 fun p hp => hok p (by simp [hp]))
    by_cases he : p.1 = us
    · rw [hkey.2 he.symm, if_pos he]
      exact hc1.append _ _ _ _ hv
    · rw [Bool.eq_false_iff.2 fun h => he (hkey.1 h).symm, if_neg he]
      exact h1
include hT in
theorem makeMap_sound {t : TypeId} {a : Act} {out : HOut} {dst : Option Tmp} {ty : TypeId} {pos : String} {after : Array Edge} {guard : Option (Nat × Bool)} (h : makeMapH T H (T t) = some out) (hS : St ρ S w H) : Gives P ⟨dst, .makeMap t none, ty, pos, after, guard⟩ a ρ S w H out.H out.d := by
  unfold makeMapH at h
  split at h
  · rename_i ta te ht
    injection h with h; subst h
    have hrow : Row (w.alloc (.map #[] 0)).heap[w.heap.size]? ⟨itTy, (hdrOf ta te).map .v, true⟩ (hdrOf ta te).toArray :=
      .inr (.inr ⟨ta.td.isAgg, te.td.isAgg, ta.zero, te.size, [], rfl, rfl, ⟨[], by simp [hdrOf]⟩, by simp [hdrOf], by simp, .nil, #[], 0, heap_new w _, by simp, by simp, .nil⟩)
    have hone : (hdrOf ta te).all (·.oneCell') = true := by
      obtain ⟨kt, et, _, hka, _⟩ := mapTI_some hT ht
      simp only [hdrOf, mapHdr, List.all_cons, List.all_eq_true]
      simp only [Value.oneCell', Bool.true_and, Bool.and_eq_true, List.all_eq_true, true_and]
      exact hka.one
    refine ⟨.map (some w.heap.size), w.alloc (.map #[] 0), ext ρ H.length (w.heap.size, (hdrOf ta te).toArray.size), .inl ?_,
      hS.newR (cur := (hdrOf ta te).toArray) (Grow.alloc w _) (Nat.le_refl _) hrow ?_ (fun _ => by simp), le_new (fun k hk => (hS.sub k hk).1) (Grow.alloc w _) (Nat.le_refl _), ?_⟩
    · rfl
    · rw [List.take_of_length_le (by simp)]
      exact RdL.scalars _ _ hone
    · simp only [Rd]
      exact ⟨.pointer (some ⟨w.heap.size, 0, none⟩), (ifcV_map ⟨w.heap.size, 0, none⟩).symm, by simp, by simp [ext_same]⟩
  · cases h
open Classical in
include hT in
theorem update_sound {op : Op} {t : TypeId} {m k v : Operand} {a : Act} {dm dk dv : Option D} {out : HOut} {dst : Option Tmp} {ty : TypeId} {pos : String} {after : Array Edge} {guard : Option (Nat × Bool)} (hop : op = .mapUpdate t m k v ∨ op = .insert t m k v)
    (h : updateH T H (T t) (fun g => cellsP g dk) (fun g => cellsP g dv) dm = some out) (hc : out.c) (hS : St ρ S w H)
    (hgm : ∀ d, dm = some d → Rd (ctx ρ S w H) d (a.eval m)) (hgk : ∀ d, dk = some d → Rd (ctx ρ S w H) d (a.eval k)) (hgv : ∀ d, dv = some d → Rd (ctx ρ S w H) d (a.eval v)) : Gives P ⟨dst, op, ty, pos, after, guard⟩ a ρ S w H out.H out.d := by
  unfold updateH at h
  split at h
  · rename_i ity b
    split at h
    · rename_i ta te ht
      obtain ⟨kt, et, hund, hka, hte, hko, hone⟩ := mapTI_some hT ht
      split at h
      · rename_i cs kd vd hcs hk hv
        cases hb : Nat.beq ity itTy with
        | false => rw [hb] at h; cases h
        | true =>
          rw [hb] at h
          simp only [cond_true, Option.some.injEq] at h
          have hity : ity = itTy := Nat.eq_of_beq_eq_true hb
          subst hity; subst h
          obtain ⟨hz, es, clock, ents, l, hmn⟩ := map_now (P := P) hS hcs
          have hmv := rd_map (hgm _ rfl)
          obtain ⟨us, hus, rfl, hkv, hck, hsb⟩ := key_now (P := P) hka hko (k := k) (ev := a.eval) hk hgk hc.1
          obtain ⟨dv', hdv, hrv⟩ := cellsP_rd hv
          obtain ⟨hrd, hpv⟩ := hrv _ (hgv _ hdv)
          have hvl : (a.eval v).cells.toList.length = te.size := by rw [hrd.length]; exact hc.2
          have hobj : w.heap[(ρ b).1]? = some (.map es clock) := hmn.obj
          have hbk := mapAt_some hcs
          have hlt : (ρ b).1 < w.heap.size := (Array.getElem?_eq_some_iff.1 hobj).1
          have hents : mEnts (ta.zero.length + te.size) cs = l := by rw [hmn.cs]; exact mEnts_flat (by have := (keyOk_spec hka hko).2.1; omega) hmn.len
          have hcall : (execOp a.eval ⟨dst, op, ty, pos, after, guard⟩).run P w = ((Instr.mapUpdate t (.map (some (ρ b).1)) (a.eval k) (a.eval v)).run P w).andThen fun _ w' => .ok .skip w' := by
            rcases hop with rfl | rfl <;> simp only [execOp, hmv, Sem.run_bind] <;> (cases (Instr.mapUpdate t (.map (some (ρ b).1)) (a.eval k) (a.eval v)).run P w <;> rfl)
          have step : ∀ (o : Obj) (cur : List Value) (nents : List (List Value × List Value)), (Instr.mapUpdate t (.map (some (ρ b).1)) (a.eval k) (a.eval v)).run P w = .ok () { w with heap := w.heap.setIfInBounds (ρ b).1 o } →
              RdL (ctx ρ S w H) (mPut ta.zero te.size (us.map D.v) vd cs) cur → cur = (nents.flatMap fun p => p.1 ++ p.2) → (∀ p ∈ nents, kindsB ta.zero p.1 = true ∧ p.2.length = te.size) → (nents.Pairwise fun p q => p.1 ≠ q.1) →
              (∃ es' clock', o = .map es' clock' ∧ (es'.toList.map fun e => (e.key, e.val)).Perm (nents.map fun p => (packV ta.td.isAgg p.1, packV te.td.isAgg p.2)) ∧ (∀ e ∈ es'.toList, e.born < clock') ∧ es'.toList.Pairwise fun e f => e.born ≠ f.born) →
              Gives P ⟨dst, op, ty, pos, after, guard⟩ a ρ S w H (H.set b (some ⟨itTy, (hdrOf ta te).map .v ++ mPut ta.zero te.size (us.map D.v) vd cs, true⟩)) (.v undef) := by
            intro o cur nents hrun hcur hce hok hnd hobj'
            have hsize : ({ w with heap := w.heap.setIfInBounds (ρ b).1 o } : World).heap.size = w.heap.size := by simp
            have hother : ∀ k, k ≠ (ρ b).1 → ({ w with heap := w.heap.setIfInBounds (ρ b).1 o } : World).heap[k]? = w.heap[k]? := fun k hk => by
              simp [Array.getElem?_setIfInBounds, Ne.symm hk]
            have hat : ({ w with heap := w.heap.setIfInBounds (ρ b).1 o } : World).heap[(ρ b).1]? = some o := by simp [hlt]
            have hone : (hdrOf ta te).all (·.oneCell') = true := by
              simp only [hdrOf, mapHdr, List.all_cons, List.all_eq_true]
              simp only [Value.oneCell', Bool.true_and, Bool.and_eq_true, List.all_eq_true, true_and]
              exact hka.one
            have hpre : RdL (ctx ρ S w H) ((hdrOf ta te).map .v ++ mPut ta.zero te.size (us.map D.v) vd cs) (hdrOf ta te ++ cur) := RdL.append _ _ _ _ (RdL.scalars _ _ hone) hcur
            obtain ⟨es', clock', rfl, ho1, ho2, ho3⟩ := hobj'
            refine ⟨undef, { w with heap := w.heap.setIfInBounds (ρ b).1 (.map es' clock') }, ρ, .inr ⟨by rw [hcall, hrun]; rfl, rfl⟩,
              hS.writeR (blk' := ⟨itTy, (hdrOf ta te).map .v ++ mPut ta.zero te.size (us.map D.v) vd cs, true⟩) (cur := (hdrOf ta te ++ cur).toArray) hbk hz hsize hother rfl rfl rfl
                (.inr (.inr ⟨ta.td.isAgg, te.td.isAgg, ta.zero, te.size, nents, rfl, rfl, ⟨_, rfl⟩, by simp [hdrOf, hce], hok, hnd, es', clock', hat, ho1, ho2, ho3⟩)) (fun h => absurd rfl h) ?_ (fun _ => by simpa using hpre.length.symm), le_write hS.sub hbk hz hsize hother rfl rfl rfl, by simp [Rd]⟩
            rw [List.take_of_length_le (by simpa using Nat.le_of_eq hpre.length)]
            exact hpre
          have hkeys : (es.toList.map (·.key)).Nodup := by
            have h1 : ((es.toList.map fun e => (e.key, e.val)).map Prod.fst).Perm ((ents.map fun p => (packV ta.td.isAgg p.1, packV te.td.isAgg p.2)).map Prod.fst) := hmn.perm.map _
            rw [List.map_map, List.map_map] at h1
            refine h1.symm.nodup ?_
            rw [List.Nodup, List.pairwise_map]
            refine List.Pairwise.imp_of_mem (fun {p q} hp hq hne he => ?_) hmn.nd
            obtain ⟨hagg, _, _, _, hks⟩ := keyOk_spec hka hko
            obtain ⟨u, hu, _⟩ := hks _ (hmn.ok p hp).1
            obtain ⟨u', hu', _⟩ := hks _ (hmn.ok q hq).1
            simp only [Function.comp, hu, hu', hagg, packV, cond_false, List.headD_cons] at he
            exact hne (by rw [hu, hu', he])
          rcases map_find hmn hka hko hus w with ⟨p, hp, hp1, hhas, _, i, f, hf1, hf2, hf3, hrun⟩ | ⟨hno, hhas, hget, hrun⟩
          · refine step (.map (es.modify i fun e => { e with key := a.eval k, val := a.eval v }) clock) _ (ents.map fun p => (p.1, if p.1 = us then (a.eval v).cells.toList else p.2)) ?_ ?_ rfl ?_ ?_ ⟨_, _, rfl, ?_⟩
            · have hgd : ((es[i]?).map (·.key)).getD (a.eval k) = a.eval k := by
                rw [← Array.getElem?_toList, hf1]
                simp only [Option.map_some, Option.getD_some, hf2, hkv]
              rw [← hkv] at hrun
              simp only [Instr.mapUpdate, Sem.run_bind, run_underlying hund, Result.andThen_ok, run_getObj_map hobj, hck, hrun, hgd, Instr.keyThatStays, hsb, if_true, Sem.run_pure, run_setObj_map _ hobj]
            · simp only [mPut, hhas, cond_true, hents]
              exact put_among hus hrd ents l hmn.rd fun p hp => (hmn.ok p hp).1
            · intro q hq
              obtain ⟨q', hq', rfl⟩ := List.mem_map.1 hq
              refine ⟨(hmn.ok q' hq').1, ?_⟩
              simp only
              split
              · exact hvl
              · exact (hmn.ok q' hq').2
            · rw [List.pairwise_map]; exact hmn.nd
            · rw [modify_list]
              have e1 : a.eval k = f.key := by rw [hf2, hkv]
              rw [e1]
              refine ⟨?_, born_mod (modify_born _ _ _ _) hmn.born.1 hmn.born.2⟩
              rw [modify_mem es.toList i f (a.eval v) hf1 hkeys]
              refine (hmn.perm.map fun q => (q.1, if q.1 = f.key then a.eval v else q.2)).trans (.of_eq ?_)
              rw [List.map_map, List.map_map]
              refine List.map_congr_left fun q hq => ?_
              simp only [Function.comp]
              obtain ⟨hagg, _, _, _, hks⟩ := keyOk_spec hka hko
              obtain ⟨u, hu, _⟩ := hks _ (hmn.ok q hq).1
              obtain ⟨u', hu', _⟩ := hks _ hus
              have hiff : packV ta.td.isAgg q.1 = f.key ↔ q.1 = us := by
                rw [hf2, hu, hu', hagg]
                simp [packV]
              by_cases he : q.1 = us
              · rw [if_pos (hiff.2 he), if_pos he, ← hpv]
              · rw [if_neg fun h => he (hiff.1 h), if_neg he]
          · refine step (.map (es.push { key := a.eval k, val := a.eval v, born := clock }) (clock + 1)) _ (ents ++ [(us, (a.eval v).cells.toList)]) ?_ ?_ rfl ?_ ?_ ⟨_, _, rfl, ?_, ?_, ?_⟩
            · rw [← hkv] at hrun
              simp only [Instr.mapUpdate, Sem.run_bind, run_underlying hund, Result.andThen_ok, run_getObj_map hobj, hck, hrun, run_setObj_map _ hobj]
            · simp only [mPut, hhas, cond_false, List.flatMap_append, List.flatMap_cons, List.flatMap_nil, List.append_nil]
              refine RdL.append _ _ _ _ ?_ (RdL.append _ _ _ _ ?_ hrd)
              · rw [hmn.cs, List.flatMap_def]; exact RdLs.join _ _ hmn.rd
              · obtain ⟨_, _, _, _, hks⟩ := keyOk_spec hka hko
                obtain ⟨u, hu, hu1, _⟩ := hks _ hus
                exact RdL.scalars _ _ (by rw [hu]; simp [hu1])
            · intro q hq
              rcases List.mem_append.1 hq with hq | hq
              · exact hmn.ok q hq
              · simp only [List.mem_singleton] at hq; subst hq; exact ⟨hus, hvl⟩
            · rw [List.pairwise_append]
              refine ⟨hmn.nd, List.pairwise_singleton _ _, fun q hq r hr => ?_⟩
              simp only [List.mem_singleton] at hr; subst hr
              exact hno q hq
            · simp only [Array.toList_push, List.map_append, List.map_cons, List.map_nil]
              rw [hkv, ← hpv]
              exact hmn.perm.append_right _
            · intro e he
              simp only [Array.toList_push, List.mem_append, List.mem_singleton] at he
              rcases he with he | rfl
              · exact Nat.lt_succ_of_lt (hmn.born.1 e he)
              · exact Nat.lt_succ_self _
            · simp only [Array.toList_push]
              rw [List.pairwise_append]
              refine ⟨hmn.born.2, List.pairwise_singleton _ _, fun e he f hf => ?_⟩
              simp only [List.mem_singleton] at hf; subst hf
              exact Nat.ne_of_lt (hmn.born.1 e he)
      · cases h
    · cases h
  · cases h
end
end Go.VD
end
section
namespace Go.VD
set_option linter.unusedVariables false
set_option linter.unusedSimpArgs false
theorem run_getObj_it {P : Program} {w : World} {r : Nat} {s : ByteArray} {n : Nat} (h : w.heap[r]? = some (.stringIter s n)) : (getObj r).run P w = .ok (.stringIter s n) w := by
  simp [getObj, Sem.run, h]
theorem run_setObj_it {P : Program} {w : World} {r : Nat} {s : ByteArray} {n : Nat} (o : Obj) (h : w.heap[r]? = some (.stringIter s n)) : (setObj r o).run P w = .ok () { w with heap := w.heap.setIfInBounds r o } := by
  simp [setObj, Sem.run, h]
section
variable {P : Program} {T : Tbl} (hT : TblOk P T) {ρ : Nat → Nat × Nat} {S : Nat → Prop} {w : World} {H : Heap}
include hT
theorem opH_sound {o : Oper} {env : Env} {a : Act} {out : HOut} (h : opH T env H o.op = some out) (hc : out.c) (hS : St ρ S w H) (hg : ∀ x d, opnd env x = some d → Rd (ctx ρ S w H) d (a.eval x)) :
    Gives P o a ρ S w H out.H out.d := by
  obtain ⟨dst, op, ty, pos, after, guard⟩ := o
  simp only at h
  cases op
  case range t x =>
    simp only [opH, rangeH] at h
    split at h
    · rename_i s hx
      split at h
      · rename_i hts
        injection h with h; subst h
        have hv := hg x _ hx
        simp only [Rd] at hv
        have hu := (hT.ok t _ hts).str rfl
        refine ⟨.pointer (some ⟨w.heap.size, 0, none⟩), w.alloc (.stringIter s 0), ext ρ H.length (w.heap.size, 2), .inl ?_,
          hS.newR (cur := #[.string s, .int .i64 0]) (Grow.alloc w _) (Nat.le_refl _) (.inr (.inl ⟨s, 0, rfl, rfl, by decide, heap_new w _⟩)) ?_ (fun _ => rfl), le_new (fun k hk => (hS.sub k hk).1) (Grow.alloc w _) (Nat.le_refl _), rd_ptr (by simp) (ext_same _ _ _)⟩
        · simp [execOp, Instr.range, run_underlying hu, hv]
        · simp only [itBlk, RdL, Rd]; exact ⟨_, _, rfl, rfl, rfl, _, _, rfl, rfl, rfl, rfl⟩
      · cases h
    · cases h
  case next it isString =>
    cases isString with
    | false => simp [opH] at h
    | true =>
      simp only [opH, nextH] at h
      split at h
      · rename_i b hx
        split at h
        · rename_i s n hit
          injection h with h; subst h
          have hb := iterAt_some hit
          have hr := hg it _ hx
          simp only [Rd] at hr
          have hz : 0 < (ρ b).2 := by
            refine Nat.pos_of_ne_zero fun h0 => ?_
            have := hS.none b _ hb h0
            cases this
          obtain ⟨cur, hk⟩ := hS.blk b _ hb hz
          obtain ⟨s', n', e1, e2, hn, hh⟩ := hk.heap.iter rfl (by intro r e; cases e)
          simp only [Blk.mk.injEq, List.cons.injEq, D.v.injEq, Value.string.injEq, Value.int.injEq, true_and, and_true] at e1
          obtain ⟨rfl, rfl⟩ := e1
          have hh : w.heap[(ρ b).1]? = some (.stringIter s n.toNat) := hh
          have hptr : a.eval it = .pointer (some ⟨(ρ b).1, 0, none⟩) := by simpa using hr.2
          have hlt : (ρ b).1 < w.heap.size := (Array.getElem?_eq_some_iff.1 hh).1
          by_cases hp : n.toNat < s.size
          · rw [decide_eq_true hp]
            have hsize : ({ w with heap := w.heap.setIfInBounds (ρ b).1 (.stringIter s (n.toNat + (Utf8.decode s n.toNat).2)) } : World).heap.size = w.heap.size := by simp
            have hother : ∀ k, k ≠ (ρ b).1 → ({ w with heap := w.heap.setIfInBounds (ρ b).1 (.stringIter s (n.toNat + (Utf8.decode s n.toNat).2)) } : World).heap[k]? = w.heap[k]? := fun k hk => by
              simp [Array.getElem?_setIfInBounds, Ne.symm hk]
            refine ⟨.tuple #[.bool true, .int .i64 n, .int .i32 ((Utf8.decode s n.toNat).1 : Nat)], { w with heap := w.heap.setIfInBounds (ρ b).1 (.stringIter s (n.toNat + (Utf8.decode s n.toNat).2)) }, ρ, .inl ?_,
              hS.writeR (blk' := ⟨itTy, [.v (.string s), .v (.int .i64 ((n.toNat + (Utf8.decode s n.toNat).2 : Nat) : Int))], true⟩) (cur := #[.string s, .int .i64 ((n.toNat + (Utf8.decode s n.toNat).2 : Nat) : Int)]) hb hz hsize hother rfl rfl rfl
                (.inr (.inl ⟨s, _, rfl, rfl, Int.natCast_nonneg _, ?_⟩)) (fun h => absurd rfl h) ?_ (fun _ => rfl), le_write hS.sub hb hz hsize hother rfl rfl rfl, ?_⟩
            · have : ((n.toNat : Nat) : Int) = n := by omega
              simp [execOp, Instr.next, hptr, run_getObj_it hh, run_setObj_it _ hh, hp, goInt, this]
            · rw [Int.toNat_natCast]; simp [hlt]
            · simp only [itBlk, RdL, Rd]; exact ⟨_, _, rfl, rfl, rfl, _, _, rfl, rfl, rfl, rfl⟩
            · simp [nextD, Rd, RdT]
          · rw [decide_eq_false hp]
            have hset : H.set b (itBlk s (nextN s n false)) = H := by
              refine List.ext_getElem? fun i => ?_
              by_cases hi : b = i
              · subst hi; rw [List.getElem?_set_self (List.getElem?_eq_some_iff.1 hb).1, hb]; rfl
              · rw [List.getElem?_set_ne hi]
            rw [hset]
            refine ⟨.tuple #[.bool false], w, ρ, .inl ?_, hS, Ctx.le.refl _, ?_⟩
            · simp [execOp, Instr.next, hptr, run_getObj_it hh, hp]
            · simp [nextD, Rd, RdT]
        · cases h
      · cases h
  case convert s d x =>
    obtain ⟨e, v, h1, h2⟩ := bytes_sound hT h hc hS (fun d' e => hg x d' e)
    rw [e]
    exact ⟨v, w, ρ, .inl (by simp [execOp, h1]), hS, Ctx.le.refl _, h2⟩
  case makeMap t r =>
    cases r with
    | some x => simp [opH] at h
    | none =>
      simp only [opH] at h
      exact makeMap_sound hT h hS
  case lookup t m k ok =>
    simp only [opH] at h
    exact lookup_sound hT h hc hS (fun d e => hg m d e) (fun d e => hg k d e)
  case mapUpdate t m k v =>
    simp only [opH] at h
    exact update_sound hT (.inl rfl) h hc hS (fun d e => hg m d e) (fun d e => hg k d e) (fun d e => hg v d e)
  case insert t m k v =>
    simp only [opH] at h
    exact update_sound hT (.inr rfl) h hc hS (fun d e => hg m d e) (fun d e => hg k d e) (fun d e => hg v d e)
  case box elem x =>
    simp only [opH, boxH] at h
    split at h
    · rename_i cs hcs
      cases hbe : Nat.beq elem itTy with
      | true => rw [hbe] at h; cases h
      | false =>
      rw [hbe] at h
      injection h with h; subst h
      have hne : elem ≠ itTy := Nat.ne_of_beq_eq_false hbe
      cases hx : opnd env x with
      | none => simp [hx] at hcs
      | some dx =>
        simp only [hx, Option.bind_some] at hcs
        have hl := cellsD_rd hcs (hg x dx hx)
        obtain ⟨ρ', h1, h2, h3⟩ := new_block (ty := elem) hne hS hl
        exact ⟨_, _, ρ', .inl (by simp [execOp, Instr.box, newVar, newRow]), h1, h2, rd_ptr (by simp) h3⟩
    · cases h
  case alloc elem =>
    simp only [opH] at h
    split at h
    · rename_i ti hti
      injection h with h; subst h
      obtain ⟨z, hz1, hz2⟩ := (hT.ok elem ti hti).run_zero
      have hl : RdL (ctx ρ S w H) (ti.zero.map .v) z.cells.toList := by
        rw [hz1]; exact RdL.scalars _ _ (by rw [List.all_eq_true]; exact (hT.ok elem ti hti).one)
      obtain ⟨ρ', h1, h2, h3⟩ := new_block (ty := elem) (hT.ok elem ti hti).ne hS hl
      refine ⟨.pointer (some ⟨w.heap.size, 0, none⟩), _, ρ', .inl ?_, h1, h2, rd_ptr (by simp) h3⟩
      simp [execOp, Instr.alloc, hz2, newVar, newRow]
    · cases h
  case load t x =>
    simp only [opH, loadH] at h
    split at h
    · rename_i b off hx
      split at h
      · rename_i blk ti hb ht
        injection h with h; subst h
        have hr := hg x _ hx
        simp only [Rd] at hr
        obtain ⟨v, h1, h2⟩ := load_blk (P := P) hS (blkAt_some hb) (blkAt_ty hb) (hT.ok t ti ht) hc
        refine ⟨v, w, ρ, .inl ?_, hS, Ctx.le.refl _, h2⟩
        simp [execOp, Instr.loadAt, hr.2, Instr.sureAddr, h1]
      · cases h
    · cases h
  case store t x y =>
    simp only [opH, storeH] at h
    split at h
    · rename_i b off hx
      split at h
      · rename_i blk ti ys hb ht hys
        injection h with h; subst h
        cases hy : opnd env y with
        | none => simp [hy] at hys
        | some dy =>
          simp only [hy, Option.bind_some] at hys
          have hl := cellsD_rd hys (hg y dy hy)
          have hr := hg x _ hx
          simp only [Rd, ctx] at hr
          obtain ⟨w', h1, h2, h3⟩ := store_blk (P := P) hS (blkAt_some hb) (blkAt_ty hb) (hT.ok t ti ht) hl hc.1 hc.2
          refine ⟨undef, w', ρ, .inr ⟨?_, rfl⟩, h2, h3, by simp [Rd]⟩
          simp [execOp, Instr.storeAt, hr.2, Instr.sureAddr, h1]
      · cases h
    · cases h
  case makeSlice t l c =>
    simp only [opH, makeH] at h
    split at h
    · rename_i k n k' m hl hcap
      split at h
      · rename_i e _ _ _ ht
        split at h
        · rename_i ti hte
          injection h with h; subst h
          obtain ⟨h0, hnm, hb, h63⟩ := hc
          have hl' := hg l _ hl
          have hc' := hg c _ hcap
          simp only [Rd] at hl' hc'
          obtain ⟨i, z, hi, hinfo, e1, e2, e3, e4⟩ := (hT.ok e ti hte).run_info w
          have hrun := run_make (P := P) w t e i z ((hT.ok t _ ht).slice rfl) hinfo e3 k k' n m h0 hnm (by rw [e2]; exact hb) h63
          rw [e1] at hrun
          have hl : RdL (ctx ρ S w H) (makeD ti.zero m.toNat) (madeCells z.cells (m.toNat * ti.size)).toList := makeD_rd (hT.ok e ti hte) e4 _
          obtain ⟨ρ', h1, h2, h3⟩ := new_block (ty := e) (hT.ok e ti hte).ne hS hl
          refine ⟨.slice (some ⟨w.heap.size, 0, none⟩) n.toNat m.toNat, _, ρ', .inl ?_, h1, h2, ?_⟩
          · simp only [execOp, hl', hc', Sem.run_bind, hrun, Result.andThen_ok, Sem.run_pure]
          · simp only [Rd]
            refine ⟨by simp, _, m.toNat, rfl, by omega, by simp only [maxLen]; omega, ?_, fun _ => ?_⟩
            · simp [h3, size_madeCells]
            · simp [h3]
        · cases h
      · cases h
    · cases h
  case buildSlice t len parts =>
    simp only [opH, buildSliceH] at h
    split at h
    · rename_i e _ _ _ ht
      split at h
      · rename_i ti hte
        split at h
        · rename_i cs hcs
          injection h with h; subst h
          obtain ⟨z, hz1, hz2⟩ := (hT.ok e ti hte).run_zero
          have hl0 : RdL (ctx ρ S w H) (makeD ti.zero len) (madeCells z.cells (len * ti.size)).toList := makeD_rd (hT.ok e ti hte) hz1 _
          obtain ⟨ws, h1, h2⟩ := fill_sound (E := ctx ρ S w H) hg parts.toList _ _ _ hcs hl0
          have hlen : ws.size = len * ti.size := by
            have h3 := h2.length
            have h4 := hl0.length
            have h5 : cs.length = (makeD ti.zero len).length := by
              have : ∀ (ps : List (Nat × Operand)) (l : List D) (out : List D), fillD (fun i => some (i * ti.size, ti.size)) env l ps = some out → out.length = l.length := by
                intro ps
                induction ps with
                | nil => intro l out h; simp only [fillD] at h; injection h with h; subst h; rfl
                | cons p ps ih =>
                  intro l out h
                  obtain ⟨i, x⟩ := p
                  simp only [fillD] at h
                  split at h
                  · split at h
                    · rw [ih _ _ h, setAll_length]
                    · cases h
                  · cases h
              exact this _ _ _ hcs
            simp only [Array.length_toList, size_madeCells] at h3 h4
            omega
          obtain ⟨ρ', h3, h4, h5⟩ := new_block (ty := e) (hT.ok e ti hte).ne hS h2
          refine ⟨.slice (some ⟨w.heap.size, 0, none⟩) len len, _, ρ', .inl ?_, h3, h4, ?_⟩
          · have hbig : ¬ (16777216 < len * ti.size) := by have : len * ti.size ≤ 16777216 := hc.1; omega
            have hparts : (parts.map fun (p : Nat × Operand) => (p.1, a.eval p.2)).toList = parts.toList.map fun p => (p.1, a.eval p.2) := by simp
            by_cases h0 : len * ti.size = 0
            · have hm : madeCells z.cells (len * ti.size) = #[] := by rw [h0]; simp [madeCells, Array.range_zero']
              rw [hm] at h1
              simp only [execOp, Instr.buildSlice, Sem.run_bind, run_underlying ((hT.ok t _ ht).slice rfl), Result.andThen_ok, (hT.ok e ti hte).run_size]
              rw [if_neg (by simpa using hbig)]
              simp only [h0, if_true, Sem.run_bind, Sem.run_pure, Result.andThen_ok, Array.range_zero', Array.map_empty]
              rw [hparts, h1]
              simp [newRow]
            · simp only [execOp, Instr.buildSlice, Sem.run_bind, run_underlying ((hT.ok t _ ht).slice rfl), Result.andThen_ok, (hT.ok e ti hte).run_size]
              rw [if_neg (by simpa using hbig)]
              simp only [h0, if_false, Sem.run_bind, Sem.run_pure, Result.andThen_ok, hz2]
              have hm : Array.map (fun x => z.cells[x % z.cells.size]!) (Array.range (len * ti.size)) = madeCells z.cells (len * ti.size) := rfl
              rw [hm, hparts, h1]
              simp [newRow]
          · simp only [Rd]
            refine ⟨by simp, _, len, rfl, Nat.le_refl _, ?_, ?_, fun _ => ?_⟩
            · exact hc.2
            · simp [h5, hlen]
            · simp [h5]
        · cases h
      · cases h
    · cases h
  case call cl =>
    obtain ⟨callee, args, argTypes⟩ := cl
    cases callee with
    | value f => simp [opH] at h
    | invoke r m => simp [opH] at h
    | builtin b =>
      cases b
      case append =>
        simp only [opH] at h
        split at h
        · rename_i s x hargs
          have e1 : args = #[s, x] := by rw [← Array.toList_inj, hargs]
          subst e1
          obtain ⟨ts⟩ := argTypes
          have hts : ∃ t t', ts[0]? = some t ∧ ts[1]? = some t' := by
            simp only [appendH] at h
            cases h0 : ts[0]? with
            | none => split at h <;> simp [h0] at h
            | some t =>
              cases h1 : ts[1]? with
              | none => split at h <;> simp [h0, h1] at h
              | some t' => exact ⟨t, t', rfl, rfl⟩
          obtain ⟨t, t', h0, h1⟩ := hts
          simp only [h0, h1, Option.bind_some] at h
          obtain ⟨v, w', ρ', hrun, hS', hle, hrd⟩ := append_sound (ty := ty) hT h hc hS (fun d e => hg s d e) (fun d e => hg x d e)
          refine ⟨v, w', ρ', .inl ?_, hS', hle, hrd⟩
          have hbi : ∀ (ts' : Array TypeId), ts'[0]? = some t → ts'[1]? = some t' → (Builtin.append_ ts' ty #[a.eval s, a.eval x]).run P w = (Builtin.append_ #[t, t'] ty #[a.eval s, a.eval x]).run P w := by
            intro ts' q0 q1
            simp only [Builtin.append_, q0, q1]
            rfl
          simp only [execOp, resolve, invoke, builtin, Sem.run_bind, Sem.run_pure, Result.andThen_ok, List.map_toArray, List.map_cons, List.map_nil]
          rw [hbi _ (by simpa using h0) (by simpa using h1), hrun]
          rfl
        · cases h
      all_goals (simp [opH] at h)
  all_goals (simp [opH] at h)
end
theorem opH_congr {T : Tbl} {env env' : Env} {H : Heap} {op : Op} (h : ∀ t ∈ opSlots op, env.lookup t = env'.lookup t) : opH T env H op = opH T env' H op := by
  have hx := get_of_lookup h
  cases op
  case range t x => simp only [opH, hx x (by simp [Op.operands])]
  case next it b =>
    cases b with
    | false => rfl
    | true => simp only [opH, hx it (by simp [Op.operands])]
  case box elem x => simp only [opH, hx x (by simp [Op.operands])]
  case makeMap t r => cases r <;> rfl
  case lookup t m k ok => simp only [opH, hx m (by simp [Op.operands]), hx k (by simp [Op.operands])]
  case mapUpdate t m k v => simp only [opH, hx m (by simp [Op.operands]), hx k (by simp [Op.operands]), hx v (by simp [Op.operands])]
  case insert t m k v => simp only [opH, hx m (by simp [Op.operands]), hx k (by simp [Op.operands]), hx v (by simp [Op.operands])]
  case convert s d x => simp only [opH, hx x (by simp [Op.operands])]
  case load t x => simp only [opH, hx x (by simp [Op.operands])]
  case store t x y => simp only [opH, hx x (by simp [Op.operands]), hx y (by simp [Op.operands])]
  case makeSlice t l c => simp only [opH, hx l (by simp [Op.operands]), hx c (by simp [Op.operands])]
  case buildSlice t len parts =>
    have : ∀ p ∈ parts.toList, opnd env p.2 = opnd env' p.2 := fun p hp => hx p.2 (by simp only [Op.operands, List.toList_toArray, List.mem_map]; exact ⟨p, hp, rfl⟩)
    simp only [opH, buildSliceH, fillD_congr parts.toList _ this]
  case call c =>
    obtain ⟨callee, args, ts⟩ := c
    cases callee with
    | value f => rfl
    | invoke r m => rfl
    | builtin b =>
      have : ∀ x ∈ args.toList, opnd env x = opnd env' x := fun x hm => hx x (by simpa [Op.operands, Call.operands] using hm)
      cases b <;> simp only [opH]
      generalize args.toList = l at this ⊢
      split
      · rename_i s x
        rw [this s (by simp), this x (by simp)]
      · rfl
  all_goals rfl
end Go.VD
end
section
namespace Go.VD
set_option linter.unusedVariables false
set_option linter.unusedSimpArgs false
theorem Rd.move {ρ ρ' : Nat → Nat × Nat} {S : Nat → Prop} {w : World} {H H' : Heap} {d : D} {u : Value} (hn : Nameless d) (h : Rd (ctx ρ S w H) d u) : Rd (ctx ρ' S w H') d u :=
  Rd.nameless (E := ctx ρ S w H) (E' := ctx ρ' S w H') (fun _ h => h) (fun _ _ => rfl) d u hn h
theorem RdT.move {ρ ρ' : Nat → Nat × Nat} {S : Nat → Prop} {w : World} {H H' : Heap} {ds : List D} {us : List Value} (hn : NamelessL ds) (h : RdT (ctx ρ S w H) ds us) : RdT (ctx ρ' S w H') ds us :=
  RdT.nameless (E := ctx ρ S w H) (E' := ctx ρ' S w H') (fun _ h => h) (fun _ _ => rfl) ds us hn h
theorem Rd.moveS {ρ ρ' : Nat → Nat × Nat} {S S' : Nat → Prop} {w : World} {H H' : Heap} {d : D} {u : Value} (hs : ∀ k, S k → S' k) (hn : Nameless d) (h : Rd (ctx ρ S w H) d u) : Rd (ctx ρ' S' w H') d u :=
  Rd.nameless (E := ctx ρ S w H) (E' := ctx ρ' S' w H') hs (fun _ _ => rfl) d u hn h
def Callable (P : Program) (f : FuncId) : Prop := ∃ fn, P.funcs[f]? = some fn ∧ fn.body.isNone = false ∧ (fn.name == "runtime.NumGoroutine") = false
def CallJ (P : Program) (f : FuncId) (ds : List D) (H : Heap) (d : D) (H' : Heap) : Prop :=
  Callable P f ∧ ∀ ρ S w vals, St ρ S w H → RdT (ctx ρ S w H) ds vals →
    Calls P f vals.toArray w fun e w' => ∃ v ρ' S', e = .returned v ∧ St ρ' S' w' H' ∧ (ctx ρ S w H).le (ctx ρ' S' w' H') ∧ Rd (ctx ρ' S' w' H') d v
structure PureJ (P : Program) (f : FuncId) (ds : List D) (d : D) : Prop where
  callable : Callable P f
  args : NamelessL ds
  res : Nameless d
  call : ∀ (S : Nat → Prop) (w : World) (vals : List Value), (∀ k, S k → k < w.heap.size) → GOK S w → RdT (ctx (fun _ => (0, 0)) S w []) ds vals →
    Calls P f vals.toArray w fun e w' => ∃ v S', e = .returned v ∧ Grow w w' ∧ (∀ k, S k → S' k) ∧ (∀ k, S' k → S k ∨ w.heap.size ≤ k) ∧ (∀ k, S' k → k < w'.heap.size) ∧ Rd (ctx (fun _ => (0, 0)) S' w' []) d v
theorem PureJ.callJ {P : Program} {f : FuncId} {ds : List D} {d : D} (h : PureJ P f ds d) (H : Heap) : CallJ P f ds H d H := by
  refine ⟨h.callable, fun ρ S w vals hS hv => ?_⟩
  have hsub : ∀ k, S k → k < w.heap.size := fun k hk => (hS.sub k hk).1
  refine (h.call S w vals hsub hS.glob (RdT.move h.args hv)).mono fun e w' ⟨v, S', he, hg, h1, h2, h3, h4⟩ => ?_
  have hfix : ∀ k, S' k → Fix (ctx ρ S' w' H) k := fun k hk => ⟨h3 k hk, fun hl => by
    rcases h2 k hk with h | h
    · exact (hS.sub k h).2 hl
    · have := hS.lt hl; omega⟩
  have hle : (ctx ρ S w H).le (ctx ρ S' w' H) :=
    ⟨Nat.le_refl _, fun _ _ => rfl, h1, fun k hk => hg.heap k (hsub k hk), fun k hk => (h2 k hk).imp id .inr, fun k hk => ⟨Nat.lt_of_lt_of_le hk.1 hg.size, hk.2⟩, fun k hk => hg.heap k hk.1, hg.size, hg.os, hg.tape, hg.output⟩
  refine ⟨v, ρ, S', he, ⟨hfix, hS.none, fun b blk hb hz => ?_, hS.inj, hS.glob.mono h1 hle.keep⟩, hle, Rd.move h.res h4⟩
  obtain ⟨cur, hc⟩ := hS.blk b blk hb hz
  exact ⟨cur, hc.heap.of (hg.heap _ hc.lt), hc.size, hc.pre.mono hle _ _, hc.full⟩
theorem PureJ.of_nil {P : Program} {f : FuncId} {ds : List D} {d : D} (h1 : NamelessL ds) (h2 : Nameless d) (h : CallJ P f ds [] d []) : PureJ P f ds d := by
  refine ⟨h.1, h1, h2, fun S w vals hsub hG hv => ?_⟩
  refine (h.2 _ S w vals (St.nil _ hsub hG) hv).mono fun e w' ⟨v, ρ', S', he, hS, hle, hd⟩ => ?_
  have nl : ∀ ρ k, ¬ Live ρ [] k := fun ρ k ⟨b, blk, hb, _⟩ => by simp at hb
  exact ⟨v, S', he, ⟨hle.size, fun k hk => hle.heap k ⟨hk, nl _ k⟩, hle.os, hle.tape, hle.output⟩, hle.S, fun k hk => (hle.new k hk).imp id fun h => h.resolve_left (nl _ k),
    fun k hk => (hS.sub k hk).1, Rd.move h2 hd⟩
theorem run_callFunc {P : Program} {f : FuncId} (h : Callable P f) (args : Array Value) (w : World) : (callFunc f args).run P w = .ok (.enter f args) w := by
  obtain ⟨fn, h1, h2, h3⟩ := h
  simp only [callFunc, Sem.run_bind, run_program, Result.andThen_ok, h1, h2, h3, Bool.false_eq_true, if_false, Sem.run_pure]
def Step (P : Program) (o : Oper) (env : Env) (H : Heap) (d : D) (H' : Heap) : Prop :=
  ∀ ρ S w a, St ρ S w H → (∀ t ∈ opSlots o.op, ∀ d, env.lookup t = some d → Rd (ctx ρ S w H) d (a.tmps.getD t undef)) →
    ∀ next Q, (∀ v ρ' S' w', St ρ' S' w' H' → (ctx ρ S w H).le (ctx ρ' S' w' H') → Rd (ctx ρ' S' w' H') d v → next (a.put o.dst v) w') → o.wp P a w next Q
def StepP (P : Program) (o : Oper) (env : Env) (d : D) : Prop := ∀ H, Step P o env H d H
theorem wp_of_run {P : Program} {o : Oper} {a : Act} {w w' : World} {v : Value} {next : Act → World → Prop} {Q : Exit → Act → World → Prop} (h : RunsTo P o a w v w') (hn : next (a.put o.dst v) w') : o.wp P a w next Q := by
  unfold Oper.wp
  rcases h with h | ⟨h, rfl⟩
  · rw [h]; exact hn
  · rw [h]; exact hn
def envOn (l : List Nat) (env : Env) : Env := env.filter fun p => l.contains p.1
theorem lookup_filter {p : Nat → Bool} : ∀ (env : Env) (t : Nat), (env.filter fun q => p q.1).lookup t = if p t then env.lookup t else none
  | [], t => by simp
  | (k, d) :: env, t => by
    have ih := lookup_filter (p := p) env t
    rw [List.filter_cons]
    by_cases hk : p k = true
    · simp only [hk, if_true, List.lookup_cons, ih]
      by_cases ht : t = k
      · subst ht; simp [hk]
      · have : (t == k) = false := by simpa using ht
        simp [this]
    · simp only [hk, List.lookup_cons]
      by_cases ht : t = k
      · subst ht; simp [hk, ih]
      · have : (t == k) = false := by simpa using ht
        simp [this, ih]
theorem lookup_envOn {l : List Nat} {env : Env} {t : Nat} (h : t ∈ l) : (envOn l env).lookup t = env.lookup t := by
  unfold envOn
  rw [lookup_filter (p := fun k => l.contains k)]
  simp [h]
theorem envOn_rd {E : Ctx} {l : List Nat} {env : Env} {a : Act} (h : ∀ t ∈ l, ∀ d, env.lookup t = some d → Rd E d (a.tmps.getD t undef)) : ∀ t d, (envOn l env).lookup t = some d → Rd E d (a.tmps.getD t undef) := by
  intro t d ht
  unfold envOn at ht
  rw [lookup_filter (p := fun k => l.contains k)] at ht
  split at ht
  · rename_i hm
    exact h t (by simpa using hm) d ht
  · cases ht
section
variable {P : Program} {T : Tbl} (hT : TblOk P T)
include hT
theorem stepP_of_opP {o : Oper} {env : Env} {d : D} {c : Prop} (h : opP T env o.op = some (d, c)) (hc : c) : StepP P o env d := by
  intro H ρ S w a hS hr next Q hn
  have h' : opP T (envOn (opSlots o.op) env) o.op = some (d, c) := by rw [← h]; exact opP_congr fun t ht => lookup_envOn ht
  obtain ⟨v, hv, hd⟩ := opP_sound (E := ctx ρ S w H) hT (get_rd hS.glob (envOn_rd hr)) h' hc
  exact wp_of_run (.inl hv) (hn v ρ S w hS (Ctx.le.refl _) hd)
theorem step_of_opH {o : Oper} {env : Env} {H : Heap} {out : HOut} (h : opH T env H o.op = some out) (hc : out.c) : Step P o env H out.d out.H := by
  intro ρ S w a hS hr next Q hn
  have h' : opH T (envOn (opSlots o.op) env) H o.op = some out := by rw [← h]; exact opH_congr fun t ht => lookup_envOn ht
  obtain ⟨v, w', ρ', hrun, h1, h2, h3⟩ := opH_sound hT h' hc hS (get_rd hS.glob (envOn_rd hr))
  exact wp_of_run hrun (hn v ρ' S w' h1 h2 h3)
end
theorem RdT.append {E : Ctx} : ∀ (ds : List D) (us : List Value) (ds' : List D) (us' : List Value), RdT E ds us → RdT E ds' us' → RdT E (ds ++ ds') (us ++ us')
  | [], us, ds', us', hr, hr' => by simp only [RdT] at hr; subst hr; simpa using hr'
  | d :: ds, us, ds', us', hr, hr' => by
    simp only [RdT] at hr
    obtain ⟨u, r, e, hd, hr⟩ := hr
    subst e
    simp only [List.cons_append, RdT]
    exact ⟨u, r ++ us', rfl, hd, RdT.append ds r ds' us' hr hr'⟩
theorem step_of_call {P : Program} {o : Oper} {env : Env} {H H' : Heap} {f : Operand} {args : Array Operand} {ts : Array TypeId} {g : FuncId} {k : Nat} {caps ds : List D} {d : D} (ho : o.op = .call { callee := .value f, args, argTypes := ts })
    (hf : opnd env f = some (.fn g k caps)) (ha : getAll env args.toList = some ds) (hj : CallJ P g (argsOf k caps ds) H d H') : Step P o env H d H' := by
  intro ρ S w a hS hr next Q hn
  have hslots : opSlots o.op = (#[f] ++ args).toList.filterMap fun | .tmp t => some t | _ => none := by rw [ho]; rfl
  have hg : ∀ x d, opnd (envOn (opSlots o.op) env) x = some d → Rd (ctx ρ S w H) d (a.eval x) := get_rd hS.glob (envOn_rd hr)
  have hcong : ∀ x ∈ (#[f] ++ args).toList, opnd (envOn (opSlots o.op) env) x = opnd env x := fun x hx => by
    refine get_of_lookup (op := o.op) (fun t ht => lookup_envOn ht) x ?_
    rw [ho]; simpa [Op.operands, Call.operands] using hx
  have hf' := hg f _ ((hcong f (by simp)).trans hf)
  have ha' : getAll (envOn (opSlots o.op) env) args.toList = some ds := by
    rw [← ha]; exact getAll_congr _ fun x hx => hcong x (by simp; exact .inr (by simpa using hx))
  have hds := getAll_rd (E := ctx ρ S w H) hg _ _ ha'
  simp only [Rd] at hf'
  obtain ⟨fs, us, hus, hk, hcaps⟩ := hf'
  have hall := RdT.argsOf hk hcaps hds
  have hrun : (execOp a.eval o).run P w = .ok (.enter g (fs.toList ++ ((args.toList.map a.eval) ++ us.toList)).toArray) w := by
    simp only [execOp, ho, resolve, hus, Deferred.ofValue, Sem.run_bind, Sem.run_pure, Result.andThen_ok, invoke]
    rw [run_callFunc hj.1]
    congr 2
    apply Array.toList_inj.1
    simp
  unfold Oper.wp
  rw [hrun]
  refine (hj.2 ρ S w _ hS hall).mono fun e w' ⟨v, ρ', S', he, h1, h2, h3⟩ => ?_
  subst he
  exact hn v ρ' S' w' h1 h2 h3
end Go.VD
end
