import Derived.Test.YtahiigfpikohgaaZTr5
import Derived.ProofKit
import Derived.OpenShut
import Derived.Carry
import Derived.ChangeSame
section
namespace Go.VD
set_option linter.unusedVariables false
set_option linter.unusedSimpArgs false
inductive TC (T : Tbl) : TypeId → List D → Prop
  | bool {t : TypeId} {a b : Nat} {z : List Value} (h : T t = some ⟨.bool, a, b, z⟩) (x : Bool) : TC T t [.v (.bool x)]
  | int {t : TypeId} {k : IntKind} {a b : Nat} {z : List Value} (h : T t = some ⟨.int k, a, b, z⟩) (n : Int) (hn : (Lit.int k n).wf = true) : TC T t [.v (.int k n)]
  | str {t : TypeId} {a b : Nat} {z : List Value} (h : T t = some ⟨.str, a, b, z⟩) (s : ByteArray) (hs : s.size ≤ maxLen) : TC T t [.v (.string s)]
  | slice {t e : TypeId} {a b : Nat} {z : List Value} (h : T t = some ⟨.slice e, a, b, z⟩) (chunks : List (List D)) (hl : chunks.length ≤ maxLen) (hc : ∀ c ∈ chunks, TC T e c) : TC T t [.ro chunks.length chunks.flatten]
  | struct {t : TypeId} {fs : List (Nat × TypeId)} {a b : Nat} {z : List Value} (h : T t = some ⟨.struct fs, a, b, z⟩) (parts : List (List D)) (hl : parts.length = fs.length)
      (hp : ∀ (i : Nat) (p : List D) (f : Nat × TypeId), parts[i]? = some p → fs[i]? = some f → TC T f.2 p) : TC T t parts.flatten
  | arr {t e : TypeId} {n a b : Nat} {z : List Value} (h : T t = some ⟨.arr n e, a, b, z⟩) (chunks : List (List D)) (hl : chunks.length = n) (hc : ∀ c ∈ chunks, TC T e c) : TC T t chunks.flatten
def contig (T : Tbl) : List (Nat × TypeId) → Nat → Nat → Bool
  | [], off, size => off == size
  | (o, t) :: r, off, size => match T t with
    | some ti => o == off && contig T r (off + ti.size) size
    | none => false
def canRead (T : Tbl) : Nat → TypeId → Bool
  | 0, _ => false
  | n + 1, t => match T t with
    | some ⟨.bool, s, _, _⟩ => s == 1
    | some ⟨.int _, s, _, _⟩ => s == 1
    | some ⟨.str, s, _, _⟩ => s == 1
    | some ⟨.slice e, s, _, _⟩ => (s == 1 && (match T e with | some te => te.size != 0 | none => false)) && canRead T n e
    | some ⟨.struct fs, s, _, _⟩ => contig T fs 0 s && fs.all fun f => canRead T n f.2
    | some ⟨.arr m e, s, _, _⟩ => canRead T n e && (match T e with | some ti => s == m * ti.size | none => false)
    | _ => false
section
variable {H : Type} {enc : TypeId × Value → H} {P : Program} {T : Tbl}
theorem TiOk.cellsOf {t : TypeId} {ti : TI} (h : TiOk P t ti) : P.cellsOf t = ti.size := by
  obtain ⟨i, z, d, hi, _, h1, _⟩ := h.ex
  simp [Program.cellsOf, hi, h1]
theorem exists_list {α : Type} (p : Nat → α → Prop) : ∀ (n : Nat), (∀ i, i < n → ∃ x, p i x) → ∃ l : List α, l.length = n ∧ ∀ i x, l[i]? = some x → p i x
  | 0, _ => ⟨[], rfl, by simp⟩
  | n + 1, h => by
    obtain ⟨l, hl, hp⟩ := exists_list p n fun i hi => h i (by omega)
    obtain ⟨x, hx⟩ := h n (by omega)
    refine ⟨l ++ [x], by simp [hl], fun i y hy => ?_⟩
    rcases getElem?_snoc_cases hy with ⟨_, hy⟩ | ⟨rfl, rfl⟩
    · exact hp i y hy
    · rw [hl]; exact hx
theorem RdL.flatten {E : Ctx} : ∀ (ds : List (List D)) (us : List (List Value)), ds.length = us.length → (∀ (i : Nat) (d : List D) (u : List Value), ds[i]? = some d → us[i]? = some u → RdL E d u) → RdL E ds.flatten us.flatten
  | [], us, hl, _ => by
    have : us = [] := List.eq_nil_of_length_eq_zero hl.symm
    subst this; simp [RdL]
  | d :: ds, [], hl, _ => by simp at hl
  | d :: ds, u :: us, hl, h => by
    simp only [List.flatten_cons]
    exact (h 0 d u (by simp) (by simp)).append _ _ _ _ (RdL.flatten ds us (by simpa using hl) fun i d' u' hd hu => h (i + 1) d' u' (by simpa using hd) (by simpa using hu))
theorem NamelessL.flatten {ds : List (List D)} (h : ∀ d ∈ ds, NamelessL d) : NamelessL ds.flatten := NamelessL.iff.2 fun x hx => by
  obtain ⟨d, hd, hx⟩ := List.mem_flatten.1 hx
  exact NamelessL.iff.1 (h d hd) x hx
theorem RdAt.flatten {E : Ctx} {sz : Nat} : ∀ (ds : List (List D)) (ad : Addr) (k : Nat), (∀ d ∈ ds, d.length = sz) → (∀ (i : Nat) (d : List D), ds[i]? = some d → ∀ (j : Nat) (x : D), d[j]? = some x → ∃ u, E.w.cell? (ad.add ((k + i) * sz + j)) = some u ∧ u.oneCell' = true ∧ Rd E x u) →
    ∀ (j : Nat) (x : D), ds.flatten[j]? = some x → ∃ u, E.w.cell? (ad.add (k * sz + j)) = some u ∧ u.oneCell' = true ∧ Rd E x u
  | [], ad, k, _, _, j, x, hx => by simp at hx
  | d :: ds, ad, k, hl, h, j, x, hx => by
    have hd := hl d (by simp)
    rw [List.flatten_cons] at hx
    by_cases hj : j < d.length
    · rw [List.getElem?_append_left hj] at hx
      have := h 0 d (by simp) j x hx
      simpa using this
    · rw [List.getElem?_append_right (by omega)] at hx
      have := RdAt.flatten ds ad (k + 1) (fun d' hd' => hl d' (by simp [hd'])) (fun i d' hd' j x hx => by
        have := h (i + 1) d' (by simpa using hd') j x hx
        rwa [show k + (i + 1) = k + 1 + i by omega] at this) (j - d.length) x hx
      rw [Nat.add_mul, Nat.one_mul, show k * sz + sz + (j - d.length) = k * sz + j by omega] at this
      exact this
theorem trod_read (hT : TblOk P T) {ρ : Nat → Nat × Nat} {w : World} {base : Nat} {spare : Nat → Bool} {held : Bool} : ∀ (n : Nat) (fuel : Nat) (t : TypeId) (cs : List Value) (x : DataW H × List MemPlace), canRead T n t = true →
    DataW.trod enc P w base spare held fuel t cs = some x → ∃ ds, RdL (ctx ρ (fun k => k < w.heap.size) w []) ds cs ∧ TC T t ds ∧ NamelessL ds
  | 0, fuel, t, cs, x, h, _ => by simp [canRead] at h
  | n + 1, fuel, t, cs, x, hcan, h => by
    simp only [canRead] at hcan
    have scalar : ∀ (v : Value) (d : TypeDesc), P.underlying t = some d → cs = [v] → v.oneCell' = true → RdL (ctx ρ (fun k => k < w.heap.size) w []) [.v v] cs := by
      intro v d _ hcs ho
      subst hcs
      simp only [RdL]
      exact ⟨v, [], rfl, ho, by simp [Rd], rfl⟩
    split at hcan
    · rename_i sz b z ht
      have hu := (hT.ok t _ ht).bool rfl
      have : ∃ y, cs = [.bool y] := by
        cases fuel with
        | zero => simp [DataW.trod] at h
        | succ m => unfold DataW.trod at h; rw [hu] at h; split at h <;> simp_all
      obtain ⟨y, hcs⟩ := this
      exact ⟨[.v (.bool y)], scalar _ _ hu hcs rfl, .bool ht y, by simp [NamelessL, Nameless]⟩
    · rename_i k sz b z ht
      have hu := (hT.ok t _ ht).int rfl
      have : ∃ y, cs = [.int k y] ∧ (Lit.int k y).wf = true := by
        cases fuel with
        | zero => simp [DataW.trod] at h
        | succ m => unfold DataW.trod at h; rw [hu] at h; split at h <;> simp_all
      obtain ⟨y, hcs, hwf⟩ := this
      exact ⟨[.v (.int k y)], scalar _ _ hu hcs rfl, .int ht y hwf, by simp [NamelessL, Nameless]⟩
    · rename_i sz b z ht
      have hu := (hT.ok t _ ht).str rfl
      have : ∃ y, cs = [.string y] ∧ y.size ≤ maxLen := by
        cases fuel with
        | zero => simp [DataW.trod] at h
        | succ m => unfold DataW.trod at h; rw [hu] at h; split at h <;> simp_all
      obtain ⟨y, hcs, hwf⟩ := this
      exact ⟨[.v (.string y)], scalar _ _ hu hcs rfl, .str ht y hwf, by simp [NamelessL, Nameless]⟩
    · rename_i e sz b z ht
      simp only [Bool.and_eq_true] at hcan
      have hu := (hT.ok t _ ht).slice rfl
      rcases DataW.trod_slice hu h with ⟨hcs, _⟩ | ⟨a, len, cap, elems, rest, m, _, hcs, _, hb, hlc, hcm, hel, hread, _⟩
      · refine ⟨[.ro 0 []], ?_, .slice ht [] (by simp) (by simp), by simp [NamelessL, Nameless]⟩
        subst hcs
        simp only [RdL]
        exact ⟨_, [], rfl, rfl, by simp only [Rd]; exact ⟨by simp [NamelessL], none, 0, rfl, Nat.le_refl _, Nat.zero_le _, fun h => absurd h (by omega)⟩, rfl⟩
      · subst hcs
        have each : ∀ i, i < len → ∃ ds : List D, (∃ us, w.cells? base (a.add (i * P.cellsOf e)) (P.cellsOf e) = some us ∧ RdL (ctx ρ (fun k => k < w.heap.size) w []) ds us) ∧ TC T e ds ∧ NamelessL ds := by
          intro i hi
          have h1 := hread i hi
          rw [List.getElem?_eq_getElem (by omega)] at h1
          obtain ⟨us, h2, h3⟩ := Option.bind_eq_some_iff.1 h1
          obtain ⟨ds, h4, h5, h6⟩ := trod_read hT n m e us _ hcan.2 h3
          exact ⟨ds, ⟨us, h2, h4⟩, h5, h6⟩
        obtain ⟨chunks, hcl, hch⟩ := exists_list _ len each
        have cellsAt : ∀ i us, w.cells? base (a.add (i * P.cellsOf e)) (P.cellsOf e) = some us → us.length = P.cellsOf e ∧ ∀ j u, us[j]? = some u → w.cell? (a.add (i * P.cellsOf e + j)) = some u := by
          intro i us hus
          unfold World.cells? at hus
          split at hus
          · have hl := mapM_some_length hus
            rw [List.length_range] at hl
            refine ⟨hl, fun j u hj => ?_⟩
            have hjl : j < P.cellsOf e := by rw [← hl]; exact (List.getElem?_eq_some_iff.1 hj).1
            have := mapM_some_get hus j j (by simp [hjl])
            rw [add_add] at this
            rw [this, hj]
          · cases hus
        refine ⟨[.ro chunks.length chunks.flatten], ?_, .slice ht chunks (by omega) (fun c hc => ?_), ?_⟩
        · simp only [RdL]
          refine ⟨_, [], rfl, rfl, ?_, rfl⟩
          simp only [Rd]
          refine ⟨NamelessL.flatten fun d hd => ?_, some a, cap, by rw [hcl], by omega, hcm, fun h0 => ⟨a, rfl, ?_, ?_⟩⟩
          · obtain ⟨i, hi⟩ := List.getElem?_of_mem hd
            exact (hch i d hi).2.2
          · -- the row lies in the world
            have hpos : 0 < len := by omega
            obtain ⟨c0, hc0⟩ : ∃ c0, chunks[0]? = some c0 := ⟨_, List.getElem?_eq_getElem (by omega)⟩
            obtain ⟨⟨us, hus, hr⟩, htc, _⟩ := hch 0 c0 hc0
            by_cases hz : P.cellsOf e = 0
            · exfalso
              have h2 := hcan.1.2
              split at h2
              · rename_i te hte
                rw [(hT.ok e _ hte).cellsOf] at hz
                simp [hz] at h2
              · cases h2
            · obtain ⟨hl, hcell⟩ := cellsAt 0 us hus
              have : ∃ u, us[0]? = some u := ⟨_, List.getElem?_eq_getElem (by omega)⟩
              obtain ⟨u, hu0⟩ := this
              have := hcell 0 u hu0
              have hlt := World.block_lt_of_cell? w _ this
              rwa [block_add] at hlt
          · refine RdAt.mk _ _ _ fun j x hx => ?_
            have hlen : ∀ d ∈ chunks, d.length = P.cellsOf e := fun d hd => by
              obtain ⟨i, hi⟩ := List.getElem?_of_mem hd
              obtain ⟨⟨us, hus, hr⟩, _⟩ := hch i d hi
              rw [← hr.length, (cellsAt i us hus).1]
            have := RdAt.flatten (E := ctx ρ (fun k => k < w.heap.size) w []) chunks a 0 hlen (fun i d hd j x hx => by
              obtain ⟨⟨us, hus, hr⟩, _⟩ := hch i d hd
              obtain ⟨u, hu1, ho, hd1⟩ := hr.get _ _ j x hx
              exact ⟨u, by rw [Nat.zero_add]; exact (cellsAt i us hus).2 j u hu1, ho, hd1⟩) j x hx
            simpa using this
        · obtain ⟨i, hi⟩ := List.getElem?_of_mem hc
          exact (hch i c hi).2.1
        · simp only [NamelessL, Nameless, and_true]
          exact NamelessL.flatten fun d hd => by
            obtain ⟨i, hi⟩ := List.getElem?_of_mem hd
            exact (hch i d hi).2.2
    · rename_i fs sz b z ht
      simp only [Bool.and_eq_true] at hcan
      obtain ⟨F, hF, hm⟩ := (hT.ok t _ ht).struct rfl
      obtain ⟨xs, m, _, _, hcs, hxs, hread⟩ := DataW.trod_struct hF h
      rw [(hT.ok t _ ht).cellsOf] at hcs
      have hall := List.all_eq_true.1 hcan.2
      have hfl : fs.length = F.size := by rw [← hm]; simp
      have each : ∀ i, i < fs.length → ∃ ds : List D, (∀ f, fs[i]? = some f → RdL (ctx ρ (fun k => k < w.heap.size) w []) ds ((cs.drop f.1).take (P.cellsOf f.2)) ∧ TC T f.2 ds) ∧ NamelessL ds := by
        intro i hi
        have hFi : F[i]? = some (F[i]'(by omega)) := Array.getElem?_eq_getElem (by omega)
        have h1 := hread i _ hFi
        rw [List.getElem?_eq_getElem (by omega)] at h1
        have hfi : fs[i]? = some ((F[i]'(by omega)).offset, (F[i]'(by omega)).type) := by
          have e : (F.toList.map fun f => (f.offset, f.type))[i]? = fs[i]? := by rw [hm]
          rw [← e, List.getElem?_map, Array.getElem?_toList, hFi]; rfl
        obtain ⟨ds, h4, h5, h6⟩ := trod_read hT n m _ _ _ (hall _ (List.mem_of_getElem? hfi)) h1
        refine ⟨ds, fun f hf => ?_, h6⟩
        rw [hfi] at hf; injection hf with hf; subst hf
        exact ⟨h4, h5⟩
      obtain ⟨parts, hpl, hp⟩ := exists_list _ fs.length each
      refine ⟨parts.flatten, ?_, .struct ht parts hpl (fun i p f hpi hfi => ((hp i p hpi).1 f hfi).2), NamelessL.flatten fun d hd => ?_⟩
      · have hcont : ∀ (fs : List (Nat × TypeId)) (off : Nat), contig T fs off sz = true → (fs.map fun f => (cs.drop f.1).take (P.cellsOf f.2)).flatten = cs.drop off := by
          intro fs
          induction fs with
          | nil =>
            intro off hc
            simp only [contig, beq_iff_eq] at hc
            have hcl : cs.length = sz := hcs
            rw [List.drop_eq_nil_of_le (by rw [hcl, hc]; exact Nat.le_refl _)]; rfl
          | cons f fs ih =>
            intro off hc
            obtain ⟨o, ft⟩ := f
            simp only [contig] at hc
            split at hc
            · rename_i ti hti
              simp only [Bool.and_eq_true, beq_iff_eq] at hc
              obtain ⟨rfl, hc⟩ := hc
              rw [List.map_cons, List.flatten_cons, ih _ hc, (hT.ok ft _ hti).cellsOf]
              rw [← List.drop_drop]
              exact List.take_append_drop _ _
            · cases hc
        have h0 := hcont fs 0 hcan.1
        rw [List.drop_zero] at h0
        rw [← h0]
        refine RdL.flatten _ _ (by simp [hpl]) fun i d u hd hu => ?_
        rw [List.getElem?_map] at hu
        cases hfi : fs[i]? with
        | none => simp [hfi] at hu
        | some f =>
          simp only [hfi, Option.map_some, Option.some.injEq] at hu
          subst hu
          exact ((hp i d hd).1 f hfi).1
      · obtain ⟨i, hi⟩ := List.getElem?_of_mem hd
        exact (hp i d hi).2
    · rename_i k e sz b z ht
      simp only [Bool.and_eq_true] at hcan
      have hu := (hT.ok t _ ht).arr rfl
      obtain ⟨xs, m, _, _, hcs, hxs, hread⟩ := DataW.trod_array hu h
      rw [(hT.ok t _ ht).cellsOf] at hcs
      have each : ∀ i, i < k → ∃ ds : List D, (RdL (ctx ρ (fun k => k < w.heap.size) w []) ds ((cs.drop (i * P.cellsOf e)).take (P.cellsOf e)) ∧ TC T e ds) ∧ NamelessL ds := by
        intro i hi
        have h1 := hread i hi
        rw [List.getElem?_eq_getElem (by omega)] at h1
        obtain ⟨ds, h4, h5, h6⟩ := trod_read hT n m e _ _ hcan.1 h1
        exact ⟨ds, ⟨h4, h5⟩, h6⟩
      obtain ⟨chunks, hcl, hch⟩ := exists_list _ k each
      refine ⟨chunks.flatten, ?_, .arr ht chunks hcl (fun c hc => ?_), NamelessL.flatten fun d hd => ?_⟩
      · have hsz : sz = k * P.cellsOf e := by
          have h2 := hcan.2
          split at h2
          · rename_i te hte
            rw [(hT.ok e _ hte).cellsOf]; simpa using h2
          · cases h2
        have hcont : ∀ (m i : Nat), i + m = k → ((List.range' i m).map fun i => (cs.drop (i * P.cellsOf e)).take (P.cellsOf e)).flatten = cs.drop (i * P.cellsOf e) := by
          intro m
          induction m with
          | zero =>
            intro i hi
            have hik : i = k := by omega
            have : cs.length ≤ i * P.cellsOf e := by rw [hcs, hik]; exact Nat.le_of_eq hsz
            simp [List.drop_eq_nil_of_le this]
          | succ m ih =>
            intro i hi
            rw [List.range'_succ, List.map_cons, List.flatten_cons, ih (i + 1) (by omega)]
            rw [Nat.add_mul, Nat.one_mul, ← List.drop_drop]
            exact List.take_append_drop _ _
        have h0 := hcont k 0 (by omega)
        rw [Nat.zero_mul, List.drop_zero] at h0
        rw [← h0]
        refine RdL.flatten _ _ (by simp [hcl]) fun i d u hd hu => ?_
        have hik : i < k := by rw [← hcl]; exact (List.getElem?_eq_some_iff.1 hd).1
        rw [List.getElem?_map, List.getElem?_range' hik] at hu
        simp only [Option.map_some, Option.some.injEq] at hu
        subst hu
        have := (hch i d hd).1.1
        simpa using this
      · obtain ⟨i, hi⟩ := List.getElem?_of_mem hc
        exact (hch i c hi).1.2
      · obtain ⟨i, hi⟩ := List.getElem?_of_mem hd
        exact (hch i d hi).2
    · cases hcan
def readStep (T : Tbl) (L : List TypeId) (t : TypeId) : Bool := match T t with
    | some ⟨.bool, s, _, _⟩ => s == 1
    | some ⟨.int _, s, _, _⟩ => s == 1
    | some ⟨.str, s, _, _⟩ => s == 1
    | some ⟨.slice e, s, _, _⟩ => (s == 1 && (match T e with | some te => te.size != 0 | none => false)) && L.contains e
    | some ⟨.struct fs, s, _, _⟩ => contig T fs 0 s && fs.all fun f => L.contains f.2
    | some ⟨.arr m e, s, _, _⟩ => L.contains e && (match T e with | some ti => s == m * ti.size | none => false)
    | _ => false
def compsOf (T : Tbl) (t : TypeId) : List TypeId := match T t with
    | some ⟨.slice e, _, _, _⟩ => [e]
    | some ⟨.struct fs, _, _, _⟩ => fs.map (·.2)
    | some ⟨.arr _ e, _, _, _⟩ => [e]
    | _ => []
def closeT (T : Tbl) : Nat → List TypeId → List TypeId
  | 0, l => l
  | n + 1, l => closeT T n (l ++ ((l.flatMap (compsOf T)).eraseDups.filter fun t => !l.contains t))
def canRec (T : Tbl) (t : TypeId) : Bool := let L := closeT T 8 [t]; L.contains t && L.all (readStep T L)
def readable (T : Tbl) (t : TypeId) : Bool := canRead T 20 t || canRec T t
theorem trod_readR (hT : TblOk P T) {ρ : Nat → Nat × Nat} {w : World} {base : Nat} {spare : Nat → Bool} {held : Bool} {L : List TypeId} (hL : ∀ t ∈ L, readStep T L t = true) : ∀ (fuel : Nat) (t : TypeId) (cs : List Value) (x : DataW H × List MemPlace), L.contains t = true →
    DataW.trod enc P w base spare held fuel t cs = some x → ∃ ds, RdL (ctx ρ (fun k => k < w.heap.size) w []) ds cs ∧ TC T t ds ∧ NamelessL ds
  | fuel, t, cs, x, hmem, h => by
    have hcan := hL t (by simpa using hmem)
    unfold readStep at hcan
    have scalar : ∀ (v : Value) (d : TypeDesc), P.underlying t = some d → cs = [v] → v.oneCell' = true → RdL (ctx ρ (fun k => k < w.heap.size) w []) [.v v] cs := by
      intro v d _ hcs ho
      subst hcs
      simp only [RdL]
      exact ⟨v, [], rfl, ho, by simp [Rd], rfl⟩
    split at hcan
    · rename_i sz b z ht
      have hu := (hT.ok t _ ht).bool rfl
      have : ∃ y, cs = [.bool y] := by
        cases fuel with
        | zero => simp [DataW.trod] at h
        | succ m => unfold DataW.trod at h; rw [hu] at h; split at h <;> simp_all
      obtain ⟨y, hcs⟩ := this
      exact ⟨[.v (.bool y)], scalar _ _ hu hcs rfl, .bool ht y, by simp [NamelessL, Nameless]⟩
    · rename_i k sz b z ht
      have hu := (hT.ok t _ ht).int rfl
      have : ∃ y, cs = [.int k y] ∧ (Lit.int k y).wf = true := by
        cases fuel with
        | zero => simp [DataW.trod] at h
        | succ m => unfold DataW.trod at h; rw [hu] at h; split at h <;> simp_all
      obtain ⟨y, hcs, hwf⟩ := this
      exact ⟨[.v (.int k y)], scalar _ _ hu hcs rfl, .int ht y hwf, by simp [NamelessL, Nameless]⟩
    · rename_i sz b z ht
      have hu := (hT.ok t _ ht).str rfl
      have : ∃ y, cs = [.string y] ∧ y.size ≤ maxLen := by
        cases fuel with
        | zero => simp [DataW.trod] at h
        | succ m => unfold DataW.trod at h; rw [hu] at h; split at h <;> simp_all
      obtain ⟨y, hcs, hwf⟩ := this
      exact ⟨[.v (.string y)], scalar _ _ hu hcs rfl, .str ht y hwf, by simp [NamelessL, Nameless]⟩
    · rename_i e sz b z ht
      simp only [Bool.and_eq_true] at hcan
      have hu := (hT.ok t _ ht).slice rfl
      rcases DataW.trod_slice hu h with ⟨hcs, _⟩ | ⟨a, len, cap, elems, rest, m, hfu, hcs, _, hb, hlc, hcm, hel, hread, _⟩
      · refine ⟨[.ro 0 []], ?_, .slice ht [] (by simp) (by simp), by simp [NamelessL, Nameless]⟩
        subst hcs
        simp only [RdL]
        exact ⟨_, [], rfl, rfl, by simp only [Rd]; exact ⟨by simp [NamelessL], none, 0, rfl, Nat.le_refl _, Nat.zero_le _, fun h => absurd h (by omega)⟩, rfl⟩
      · subst hcs
        have each : ∀ i, i < len → ∃ ds : List D, (∃ us, w.cells? base (a.add (i * P.cellsOf e)) (P.cellsOf e) = some us ∧ RdL (ctx ρ (fun k => k < w.heap.size) w []) ds us) ∧ TC T e ds ∧ NamelessL ds := by
          intro i hi
          have h1 := hread i hi
          rw [List.getElem?_eq_getElem (by omega)] at h1
          obtain ⟨us, h2, h3⟩ := Option.bind_eq_some_iff.1 h1
          obtain ⟨ds, h4, h5, h6⟩ := trod_readR hT hL m e us _ hcan.2 h3
          exact ⟨ds, ⟨us, h2, h4⟩, h5, h6⟩
        obtain ⟨chunks, hcl, hch⟩ := exists_list _ len each
        have cellsAt : ∀ i us, w.cells? base (a.add (i * P.cellsOf e)) (P.cellsOf e) = some us → us.length = P.cellsOf e ∧ ∀ j u, us[j]? = some u → w.cell? (a.add (i * P.cellsOf e + j)) = some u := by
          intro i us hus
          unfold World.cells? at hus
          split at hus
          · have hl := mapM_some_length hus
            rw [List.length_range] at hl
            refine ⟨hl, fun j u hj => ?_⟩
            have hjl : j < P.cellsOf e := by rw [← hl]; exact (List.getElem?_eq_some_iff.1 hj).1
            have := mapM_some_get hus j j (by simp [hjl])
            rw [add_add] at this
            rw [this, hj]
          · cases hus
        refine ⟨[.ro chunks.length chunks.flatten], ?_, .slice ht chunks (by omega) (fun c hc => ?_), ?_⟩
        · simp only [RdL]
          refine ⟨_, [], rfl, rfl, ?_, rfl⟩
          simp only [Rd]
          refine ⟨NamelessL.flatten fun d hd => ?_, some a, cap, by rw [hcl], by omega, hcm, fun h0 => ⟨a, rfl, ?_, ?_⟩⟩
          · obtain ⟨i, hi⟩ := List.getElem?_of_mem hd
            exact (hch i d hi).2.2
          · -- the row lies in the world
            have hpos : 0 < len := by omega
            obtain ⟨c0, hc0⟩ : ∃ c0, chunks[0]? = some c0 := ⟨_, List.getElem?_eq_getElem (by omega)⟩
            obtain ⟨⟨us, hus, hr⟩, htc, _⟩ := hch 0 c0 hc0
            by_cases hz : P.cellsOf e = 0
            · exfalso
              have h2 := hcan.1.2
              split at h2
              · rename_i te hte
                rw [(hT.ok e _ hte).cellsOf] at hz
                simp [hz] at h2
              · cases h2
            · obtain ⟨hl, hcell⟩ := cellsAt 0 us hus
              have : ∃ u, us[0]? = some u := ⟨_, List.getElem?_eq_getElem (by omega)⟩
              obtain ⟨u, hu0⟩ := this
              have := hcell 0 u hu0
              have hlt := World.block_lt_of_cell? w _ this
              rwa [block_add] at hlt
          · refine RdAt.mk _ _ _ fun j x hx => ?_
            have hlen : ∀ d ∈ chunks, d.length = P.cellsOf e := fun d hd => by
              obtain ⟨i, hi⟩ := List.getElem?_of_mem hd
              obtain ⟨⟨us, hus, hr⟩, _⟩ := hch i d hi
              rw [← hr.length, (cellsAt i us hus).1]
            have := RdAt.flatten (E := ctx ρ (fun k => k < w.heap.size) w []) chunks a 0 hlen (fun i d hd j x hx => by
              obtain ⟨⟨us, hus, hr⟩, _⟩ := hch i d hd
              obtain ⟨u, hu1, ho, hd1⟩ := hr.get _ _ j x hx
              exact ⟨u, by rw [Nat.zero_add]; exact (cellsAt i us hus).2 j u hu1, ho, hd1⟩) j x hx
            simpa using this
        · obtain ⟨i, hi⟩ := List.getElem?_of_mem hc
          exact (hch i c hi).2.1
        · simp only [NamelessL, Nameless, and_true]
          exact NamelessL.flatten fun d hd => by
            obtain ⟨i, hi⟩ := List.getElem?_of_mem hd
            exact (hch i d hi).2.2
    · rename_i fs sz b z ht
      simp only [Bool.and_eq_true] at hcan
      obtain ⟨F, hF, hm⟩ := (hT.ok t _ ht).struct rfl
      obtain ⟨xs, m, hfu, _, hcs, hxs, hread⟩ := DataW.trod_struct hF h
      rw [(hT.ok t _ ht).cellsOf] at hcs
      have hall := List.all_eq_true.1 hcan.2
      have hfl : fs.length = F.size := by rw [← hm]; simp
      have each : ∀ i, i < fs.length → ∃ ds : List D, (∀ f, fs[i]? = some f → RdL (ctx ρ (fun k => k < w.heap.size) w []) ds ((cs.drop f.1).take (P.cellsOf f.2)) ∧ TC T f.2 ds) ∧ NamelessL ds := by
        intro i hi
        have hFi : F[i]? = some (F[i]'(by omega)) := Array.getElem?_eq_getElem (by omega)
        have h1 := hread i _ hFi
        rw [List.getElem?_eq_getElem (by omega)] at h1
        have hfi : fs[i]? = some ((F[i]'(by omega)).offset, (F[i]'(by omega)).type) := by
          have e : (F.toList.map fun f => (f.offset, f.type))[i]? = fs[i]? := by rw [hm]
          rw [← e, List.getElem?_map, Array.getElem?_toList, hFi]; rfl
        obtain ⟨ds, h4, h5, h6⟩ := trod_readR hT hL m _ _ _ (hall _ (List.mem_of_getElem? hfi)) h1
        refine ⟨ds, fun f hf => ?_, h6⟩
        rw [hfi] at hf; injection hf with hf; subst hf
        exact ⟨h4, h5⟩
      obtain ⟨parts, hpl, hp⟩ := exists_list _ fs.length each
      refine ⟨parts.flatten, ?_, .struct ht parts hpl (fun i p f hpi hfi => ((hp i p hpi).1 f hfi).2), NamelessL.flatten fun d hd => ?_⟩
      · have hcont : ∀ (fs : List (Nat × TypeId)) (off : Nat), contig T fs off sz = true → (fs.map fun f => (cs.drop f.1).take (P.cellsOf f.2)).flatten = cs.drop off := by
          intro fs
          induction fs with
          | nil =>
            intro off hc
            simp only [contig, beq_iff_eq] at hc
            have hcl : cs.length = sz := hcs
            rw [List.drop_eq_nil_of_le (by rw [hcl, hc]; exact Nat.le_refl _)]; rfl
          | cons f fs ih =>
            intro off hc
            obtain ⟨o, ft⟩ := f
            simp only [contig] at hc
            split at hc
            · rename_i ti hti
              simp only [Bool.and_eq_true, beq_iff_eq] at hc
              obtain ⟨rfl, hc⟩ := hc
              rw [List.map_cons, List.flatten_cons, ih _ hc, (hT.ok ft _ hti).cellsOf]
              rw [← List.drop_drop]
              exact List.take_append_drop _ _
            · cases hc
        have h0 := hcont fs 0 hcan.1
        rw [List.drop_zero] at h0
        rw [← h0]
        refine RdL.flatten _ _ (by simp [hpl]) fun i d u hd hu => ?_
        rw [List.getElem?_map] at hu
        cases hfi : fs[i]? with
        | none => simp [hfi] at hu
        | some f =>
          simp only [hfi, Option.map_some, Option.some.injEq] at hu
          subst hu
          exact ((hp i d hd).1 f hfi).1
      · obtain ⟨i, hi⟩ := List.getElem?_of_mem hd
        exact (hp i d hi).2
    · rename_i k e sz b z ht
      simp only [Bool.and_eq_true] at hcan
      have hu := (hT.ok t _ ht).arr rfl
      obtain ⟨xs, m, hfu, _, hcs, hxs, hread⟩ := DataW.trod_array hu h
      rw [(hT.ok t _ ht).cellsOf] at hcs
      have each : ∀ i, i < k → ∃ ds : List D, (RdL (ctx ρ (fun k => k < w.heap.size) w []) ds ((cs.drop (i * P.cellsOf e)).take (P.cellsOf e)) ∧ TC T e ds) ∧ NamelessL ds := by
        intro i hi
        have h1 := hread i hi
        rw [List.getElem?_eq_getElem (by omega)] at h1
        obtain ⟨ds, h4, h5, h6⟩ := trod_readR hT hL m e _ _ hcan.1 h1
        exact ⟨ds, ⟨h4, h5⟩, h6⟩
      obtain ⟨chunks, hcl, hch⟩ := exists_list _ k each
      refine ⟨chunks.flatten, ?_, .arr ht chunks hcl (fun c hc => ?_), NamelessL.flatten fun d hd => ?_⟩
      · have hsz : sz = k * P.cellsOf e := by
          have h2 := hcan.2
          split at h2
          · rename_i te hte
            rw [(hT.ok e _ hte).cellsOf]; simpa using h2
          · cases h2
        have hcont : ∀ (m i : Nat), i + m = k → ((List.range' i m).map fun i => (cs.drop (i * P.cellsOf e)).take (P.cellsOf e)).flatten = cs.drop (i * P.cellsOf e) := by
          intro m
          induction m with
          | zero =>
            intro i hi
            have hik : i = k := by omega
            have : cs.length ≤ i * P.cellsOf e := by rw [hcs, hik]; exact Nat.le_of_eq hsz
            simp [List.drop_eq_nil_of_le this]
          | succ m ih =>
            intro i hi
            rw [List.range'_succ, List.map_cons, List.flatten_cons, ih (i + 1) (by omega)]
            rw [Nat.add_mul, Nat.one_mul, ← List.drop_drop]
            exact List.take_append_drop _ _
        have h0 := hcont k 0 (by omega)
        rw [Nat.zero_mul, List.drop_zero] at h0
        rw [← h0]
        refine RdL.flatten _ _ (by simp [hcl]) fun i d u hd hu => ?_
        have hik : i < k := by rw [← hcl]; exact (List.getElem?_eq_some_iff.1 hd).1
        rw [List.getElem?_map, List.getElem?_range' hik] at hu
        simp only [Option.map_some, Option.some.injEq] at hu
        subst hu
        have := (hch i d hd).1.1
        simpa using this
      · obtain ⟨i, hi⟩ := List.getElem?_of_mem hc
        exact (hch i c hi).1.2
      · obtain ⟨i, hi⟩ := List.getElem?_of_mem hd
        exact (hch i d hi).2
    · cases hcan
termination_by fuel => fuel
decreasing_by all_goals omega
theorem trod_readable (hT : TblOk P T) {ρ : Nat → Nat × Nat} {w : World} {base : Nat} {spare : Nat → Bool} {held : Bool} {fuel : Nat} {t : TypeId} {cs : List Value} {x : DataW H × List MemPlace} (hr : readable T t = true)
    (h : DataW.trod enc P w base spare held fuel t cs = some x) : ∃ ds, RdL (ctx ρ (fun k => k < w.heap.size) w []) ds cs ∧ TC T t ds ∧ NamelessL ds := by
  unfold readable at hr
  rw [Bool.or_eq_true] at hr
  rcases hr with hr | hr
  · exact trod_read hT 20 fuel t cs x hr h
  · unfold canRec at hr
    simp only [Bool.and_eq_true] at hr
    exact trod_readR hT (fun t ht => List.all_eq_true.1 hr.2 t ht) fuel t cs x hr.1 h
end
end Go.VD
end
section
namespace Go.VD
open Go.ChangeShapes Go.WideShapes Go.ChangeAt Go.RowKit
set_option linter.unusedVariables false
set_option linter.unusedSimpArgs false
def TArgs (T : Tbl) : List TypeId → List D → Prop
  | [], ds => ds = []
  | t :: ts, ds => ∃ d r, ds = d :: r ∧ (∃ ti cs, T t = some ti ∧ TC T t cs ∧ d = (if ti.td.isAgg then .agg cs else cs.headD default)) ∧ TArgs T ts r
section
variable {H : Type} {enc : TypeId × Value → H} {P : Program} {T : Tbl}
theorem post_below {f : Func} {s : ChangeSpec} {apart fresh handsOn again : Bool} {W W' : World} {args : Array Value} {v : Value} {ds gs : List (DataW H)} {before pa pv : List MemPlace}
    (hW : DataW.Whole enc P f.params.toList s.vars apart W args.toList ds gs before)
    (hres : ∀ (b : Nat) (sp : Nat → Bool) (hd : Bool), DataW.TrodAll enc P W' b sp hd f.resultTypes.toList (v.resultList f.resultTypes.size) (s.fn H (ds ++ gs)).results [])
    (hargs : ∀ sp : Nat → Bool, (∀ p ∈ before, sp p.block = true) → DataW.TrodAll enc P W' 0 sp true f.params.toList args.toList (s.fn H (ds ++ gs)).args pa)
    (hvars : ∀ sp : Nat → Bool, (∀ p ∈ before, sp p.block = true) → DataW.TrodVars enc P W' sp s.vars (s.fn H (ds ++ gs)).vars pv)
    (hps : before = pa ++ pv) (hb : Below W.heap.size W W')
    (hok : ∀ (j : Nat) (t : TypeId) (r : Value), f.resultTypes[j]? = some t → (v.resultList f.resultTypes.size)[j]? = some r → Value.okWide P W' .any 0 t r) :
    s.post enc P f apart fresh handsOn again W args v W' := by
  have hlt : ∀ p ∈ before, p.block < W.heap.size := fun p hp => hW.lt p hp
  have hold : ∀ p ∈ before, (fun b => decide (b < W.heap.size)) p.block = true := fun p hp => by simpa using hlt p hp
  refine ⟨ds, gs, before, [], pa, pv, hW, hres _ _ _, hargs _ hold, hvars _ hold, World.keptBut_mono (fun p hp => ⟨hp, ?_⟩) (hb.frame (· ∈ before)), fun _ => ?_⟩
  · rw [hps, List.mem_append] at hp
    exact Or.inr hp
  · obtain ⟨_, _, _, _, _, hz, hn⟩ := hW
    refine ⟨hok, _, _, ([] ++ pa) ++ pv, ⟨[] ++ pa, pv, trodAll_append (hargs _ (fun _ _ => rfl)) (hres _ _ _), hvars _ (fun _ _ => rfl), rfl, ?_, ?_⟩, ?_⟩
    · intro b off hp
      have hin : MemPlace.cell b off ∈ before := by rw [hps]; simpa using hp
      rw [hb.frozen (hlt _ hin)]
      exact hz b off hin
    · intro ha
      have := hn ha
      rw [hps] at this
      simpa using this
    · intro p hp _
      rw [hps]
      simpa using hp
theorem trodAll_again (hl : laidOutB P = true) {W W' : World} (hb : Below W.heap.size W W') : ∀ (ts : List TypeId) (vs : List Value) (ds : List (DataW H)) (ps : List MemPlace), (∀ t ∈ ts, P.readableRec t = true ∧ t < P.types.size) →
    DataW.TrodAll enc P W 0 (fun _ => true) true ts vs ds ps → ∀ sp : Nat → Bool, (∀ p ∈ ps, p.block < W.heap.size) → (∀ p ∈ ps, sp p.block = true) → DataW.TrodAll enc P W' 0 sp true ts vs ds ps
  | [], vs, ds, ps, _, h, sp, hlt, hsp => by
    cases vs <;> cases ds <;> simp_all [DataW.TrodAll]
  | t :: ts, vs, ds, ps, ht, h, sp, hlt, hsp => by
    obtain ⟨v, vs', d, ds', p, q, rfl, rfl, rfl, h1, h2⟩ := trodAll_cons h
    obtain ⟨hr, hrow⟩ := ht t (by simp)
    refine ⟨p, q, WideElems.Trod_stays hl hr hrow h1 (fun x hx => hb.same (hlt x (by simp [hx]))) (fun x hx => hsp x (by simp [hx])), trodAll_again hl hb ts vs' ds' q (fun t ht' => ht t (by simp [ht'])) h2 sp (fun x hx => hlt x (by simp [hx])) (fun x hx => hsp x (by simp [hx])), rfl⟩
theorem args_read (hT : TblOk P T) {ρ : Nat → Nat × Nat} {W : World} : ∀ (ts : List TypeId) (vs : List Value) (ds : List (DataW H)) (ps : List MemPlace), (∀ t ∈ ts, readable T t = true) →
    (∀ (j : Nat) t v, ts[j]? = some t → vs[j]? = some v → ∃ base, Value.okWide P W .any base t v) → DataW.TrodAll enc P W 0 (fun _ => true) true ts vs ds ps →
    ∃ es, TArgs T ts es ∧ RdT (ctx ρ (fun k => k < W.heap.size) W []) es vs
  | [], vs, ds, ps, _, _, h => by
    cases vs <;> cases ds <;> simp_all [DataW.TrodAll]
    exact ⟨[], by simp [TArgs], by simp [RdT]⟩
  | t :: ts, vs, ds, ps, hcan, hok, h => by
    obtain ⟨v, vs', d, ds', p, q, rfl, rfl, rfl, ⟨fuel, h1⟩, h2⟩ := trodAll_cons h
    obtain ⟨es, he1, he2⟩ := args_read hT (ρ := ρ) ts vs' ds' q (fun t ht => hcan t (by simp [ht])) (fun j t' v' hj hv => hok (j + 1) t' v' (by simpa using hj) (by simpa using hv)) h2
    obtain ⟨base, hv⟩ := hok 0 t v (by simp) (by simp)
    have hc := hcan t (by simp)
    obtain ⟨cs, hr, htc, hn⟩ := trod_readable hT (ρ := ρ) hc h1
    have key : ∃ ti, T t = some ti ∧ Rd (ctx ρ (fun k => k < W.heap.size) W []) (if ti.td.isAgg then .agg cs else cs.headD default) v := by
      have one : ∀ (ti : TI) (e : D), T t = some ti → ti.td.isAgg = false → cs = [e] → v.cells = #[v] → ∃ ti, T t = some ti ∧ Rd (ctx ρ (fun k => k < W.heap.size) W []) (if ti.td.isAgg then .agg cs else cs.headD default) v := by
        intro ti e ht hag hcs hv
        refine ⟨ti, ht, ?_⟩
        rw [hag, hcs]
        rw [hv, hcs] at hr
        simp only [RdL] at hr
        obtain ⟨u, r, hu, _, hd, _⟩ := hr
        simp only [List.cons.injEq] at hu
        obtain ⟨rfl, _⟩ := hu
        simpa using hd
      cases htc with
      | bool ht x => obtain ⟨b, rfl⟩ := okWide_bool ((hT.ok t _ ht).bool rfl) hv; exact one _ _ ht rfl rfl rfl
      | int ht n hn => obtain ⟨b, rfl⟩ := okWide_int ((hT.ok t _ ht).int rfl) hv; exact one _ _ ht rfl rfl rfl
      | str ht s hs => obtain ⟨b, rfl⟩ := okWide_string ((hT.ok t _ ht).str rfl) hv; exact one _ _ ht rfl rfl rfl
      | slice ht chunks hl hcc => obtain ⟨a, n, c, rfl⟩ := okWide_slice ((hT.ok t _ ht).slice rfl) hv; exact one _ _ ht rfl rfl rfl
      | struct ht parts hl hp =>
        obtain ⟨F, hF, _⟩ := (hT.ok t _ ht).struct rfl
        obtain ⟨us, rfl, _⟩ := okWide_struct hF hv
        refine ⟨_, ht, ?_⟩
        simp only [TD.isAgg, if_true, Rd]
        exact ⟨us, rfl, hr⟩
      | arr ht chunks hl hcc =>
        have hu := (hT.ok t _ ht).arr rfl
        have : ∃ us, v = .agg us := by
          simp only [Value.okWide, hu] at hv
          obtain ⟨us, e, _⟩ := hv
          exact ⟨us, e⟩
        obtain ⟨us, rfl⟩ := this
        refine ⟨_, ht, ?_⟩
        simp only [TD.isAgg, if_true, Rd]
        exact ⟨us, rfl, hr⟩
    obtain ⟨ti, hti, hrd⟩ := key
    refine ⟨(if ti.td.isAgg then .agg cs else cs.headD default) :: es, ?_, ?_⟩
    · simp only [TArgs]; exact ⟨_, es, rfl, ⟨ti, cs, hti, htc, rfl⟩, he1⟩
    · simp only [RdT]; exact ⟨v, vs', rfl, hrd, he2⟩
theorem law_contract {f : FuncId} {fn : Func} {s : ChangeSpec} {tb : TypeId} (hT : TblOk P T) (hl : laidOutB P = true) (hparams : ∀ t ∈ fn.params.toList, P.readableRec t = true ∧ t < P.types.size ∧ readable T t = true)
    (hres : fn.resultTypes = #[tb]) (htb : P.underlying tb = some .bool) (hvars : s.vars = [])
    (hspec : ∀ (ds : List (DataW H)), ds.length = fn.params.size → (s.fn H ds).results = [.lit (.bool true)] ∧ (s.fn H ds).args = ds ∧ (s.fn H ds).vars = [])
    (law : ∀ es, TArgs T fn.params.toList es → PureJ P f es (.v (.bool true)))
    (W : World) (hG : GOK (fun k => k < W.heap.size) W) (base : Nat) (args : Array Value) (ds gs : List (DataW H)) (before : List MemPlace) (hval : ∀ (j : Nat) t v, fn.params[j]? = some t → args[j]? = some v → Value.okWide P W .any base t v)
    (hW : DataW.Whole enc P fn.params.toList s.vars false W args.toList ds gs before) :
    Calls P f args W fun e W' => ∃ v, e = .returned v ∧ s.post enc P fn false true false false W args v W' := by
  have hW' := hW
  obtain ⟨p, q, hA, hV, hpq, hfz, hnd⟩ := hW
  rw [hvars] at hV
  have hg : gs = [] ∧ q = [] := by
    cases gs <;> simp_all [DataW.TrodVars]
  obtain ⟨rfl, rfl⟩ := hg
  rw [List.append_nil] at hpq
  subst hpq
  obtain ⟨es, he1, he2⟩ := args_read hT (ρ := fun _ => (0, 0)) fn.params.toList args.toList ds before (fun t ht => (hparams t ht).2.2) (fun j t v hj hv => ⟨base, hval j t v (by simpa using hj) (by simpa using hv)⟩) hA
  have hlen : ds.length = fn.params.size := by
    have : ∀ (ts : List TypeId) (vs : List Value) (ds : List (DataW H)) (ps : List MemPlace), DataW.TrodAll enc P W 0 (fun _ => true) true ts vs ds ps → ds.length = ts.length := by
      intro ts
      induction ts with
      | nil => intro vs ds ps h; cases vs <;> cases ds <;> simp_all [DataW.TrodAll]
      | cons t ts ih =>
        intro vs ds ps h
        obtain ⟨v, vs', d, ds', p, q, rfl, rfl, rfl, h1, h2⟩ := trodAll_cons h
        simp [ih _ _ _ h2]
    have := this _ _ _ _ hA
    simpa using this
  obtain ⟨hs1, hs2, hs3⟩ := hspec ds hlen
  have hcall := (law es he1).call (fun k => k < W.heap.size) W args.toList (fun _ h => h) hG he2
  rw [show args.toList.toArray = args from by simp] at hcall
  refine hcall.mono fun e W' ⟨v, S', he, hgr, _, _, _, hr⟩ => ?_
  simp only [Rd] at hr
  subst hr
  have hb : Below W.heap.size W W' := ⟨hgr.os, hgr.tape, hgr.output, hgr.size, hgr.heap⟩
  refine ⟨_, he, post_below (pa := before) (pv := []) hW' (fun b sp hd => ?_) (fun sp hsp => ?_) (fun sp _ => ?_) (by simp) hb (ok_one hres rfl (okWide_bool_mk htb _))⟩
  · rw [List.append_nil, hs1, hres]
    exact trodAll_cons_mk (shut_bool htb _) trodAll_mk0
  · rw [List.append_nil, hs2]
    exact trodAll_again hl hb _ _ _ _ (fun t ht => ⟨(hparams t ht).1, (hparams t ht).2.1⟩) hA sp (fun p hp => hW'.lt p hp) hsp
  · rw [List.append_nil, hs3, hvars]; rfl
end
end Go.VD
end
section
namespace Go.VD
set_option linter.unusedVariables false
set_option linter.unusedSimpArgs false
def u32s (xs : List Nat) : List D := xs.map fun (x : Nat) => D.v (.int .u32 (x : Int))
theorem u32s_nameless (xs : List Nat) : NamelessL (u32s xs) := NamelessL.map _ (fun _ => by simp [Nameless]) xs
theorem u32s_length (xs : List Nat) : (u32s xs).length = xs.length := by simp [u32s]
theorem u32s_cell (xs : List Nat) (i : Nat) : cellInt ((u32s xs).getD i default) = (xs.getD i 0 : Nat) := by
  simp only [u32s, List.getD_eq_getElem?_getD, List.getElem?_map]
  cases h : xs[i]? <;> simp [cellInt] <;> rfl
theorem u32s_isInt (xs : List Nat) (i : Nat) (h : i < xs.length) : IsInt .u32 ((u32s xs).getD i default) = True := by
  simp [IsInt, u32s, List.getD_eq_getElem?_getD, List.getElem?_eq_getElem, h, cellInt]
theorem u32s_take (xs : List Nat) (n : Nat) : (u32s xs).take n = u32s (xs.take n) := by simp [u32s]
theorem u32s_drop (xs : List Nat) (n : Nat) : (u32s xs).drop n = u32s (xs.drop n) := by simp [u32s]
theorem u32s_append (xs ys : List Nat) : u32s xs ++ u32s ys = u32s (xs ++ ys) := by simp [u32s]
theorem u32s_set (xs : List Nat) (i x : Nat) : (u32s xs).set i (.v (.int .u32 (x : Int))) = u32s (xs.set i x) := by simp [u32s]
theorem u32s_replicate (n x : Nat) : List.replicate n (D.v (.int .u32 (x : Int))) = u32s (List.replicate n x) := by simp [u32s]
def unu (ys : List D) : List Nat := ys.map fun d => (cellInt d).toNat
theorem unu_u32s (xs : List Nat) : unu (u32s xs) = xs := by
  simp only [unu, u32s, List.map_map]
  have : ((fun d => (cellInt d).toNat) ∘ fun (x : Nat) => D.v (.int .u32 (x : Int))) = id := by funext x; simp [cellInt]
  rw [this, List.map_id]
def ints (k : IntKind) (xs : List Int) : List D := xs.map fun x => D.v (.int k x)
def uni (ys : List D) : List Int := ys.map cellInt
theorem uni_ints (k : IntKind) (xs : List Int) : uni (ints k xs) = xs := by
  simp only [uni, ints, List.map_map]
  have : (cellInt ∘ fun (x : Int) => D.v (.int k x)) = id := by funext x; simp [cellInt]
  rw [this, List.map_id]
theorem namelessL_ints (k : IntKind) (xs : List Int) : NamelessL (ints k xs) := NamelessL.map _ (fun _ => by simp [Nameless]) xs
theorem ints_length (k : IntKind) (xs : List Int) : (ints k xs).length = xs.length := by simp [ints]
theorem ints_cell (k : IntKind) (xs : List Int) (i : Nat) : cellInt ((ints k xs).getD i default) = xs.getD i 0 := by
  simp only [ints, List.getD_eq_getElem?_getD, List.getElem?_map]
  cases h : xs[i]? <;> simp [cellInt] <;> rfl
theorem ints_isInt (k : IntKind) (xs : List Int) (i : Nat) (h : i < xs.length) : IsInt k ((ints k xs).getD i default) = True := by
  simp [IsInt, ints, List.getD_eq_getElem?_getD, List.getElem?_eq_getElem, h, cellInt]
theorem ints_take (k : IntKind) (xs : List Int) (n : Nat) : (ints k xs).take n = ints k (xs.take n) := by simp [ints]
theorem ints_drop (k : IntKind) (xs : List Int) (n : Nat) : (ints k xs).drop n = ints k (xs.drop n) := by simp [ints]
theorem ints_append (k : IntKind) (xs ys : List Int) : ints k xs ++ ints k ys = ints k (xs ++ ys) := by simp [ints]
theorem ints_set (k : IntKind) (xs : List Int) (i : Nat) (x : Int) : (ints k xs).set i (.v (.int k x)) = ints k (xs.set i x) := by simp [ints]
theorem wrap_i64_of {n : Int} (h1 : -9223372036854775808 ≤ n) (h2 : n < 9223372036854775808) : IntKind.i64.wrap n = n := by
  rw [IntKind.wrap_i64]; omega
theorem wrap_u32_of {n : Int} (h1 : 0 ≤ n) (h2 : n < 4294967296) : IntKind.u32.wrap n = n := by
  simp [IntKind.wrap, IntKind.bits, IntKind.signed]; omega
theorem wrap_u64_of {n : Int} (h1 : 0 ≤ n) (h2 : n < 18446744073709551616) : IntKind.u64.wrap n = n := by
  simp [IntKind.wrap, IntKind.bits, IntKind.signed]; omega
theorem wrap_u32 (n : Int) : IntKind.u32.wrap n = n % 4294967296 := by
  simp [IntKind.wrap, IntKind.bits, IntKind.signed]
theorem wrap_u64 (n : Int) : IntKind.u64.wrap n = n % 18446744073709551616 := by
  simp [IntKind.wrap, IntKind.bits, IntKind.signed]
theorem wrap_u8 (n : Int) : IntKind.u8.wrap n = n % 256 := by
  simp [IntKind.wrap, IntKind.bits, IntKind.signed]
theorem nat_eq0 (n : Nat) : ((n : Int) == 0) = decide (n = 0) := by
  by_cases h : n = 0
  · simp [h]
  · simp [h]
theorem hp_get (H L : Heap) (k : Nat) : (H ++ L)[H.length + k]? = L[k]? := by
  rw [List.getElem?_append_right (by omega)]; congr 1; omega
theorem hp_get0 (H L : Heap) : (H ++ L)[H.length]? = L[0]? := hp_get H L 0
theorem hp_set (H L : Heap) (k : Nat) (x : Option Blk) : (H ++ L).set (H.length + k) x = H ++ L.set k x := by
  rw [List.set_append_right _ _ (by omega)]; congr 2; omega
theorem hp_set0 (H L : Heap) (x : Option Blk) : (H ++ L).set H.length x = H ++ L.set 0 x := hp_set H L 0 x
theorem hp_len (H L : Heap) : (H ++ L).length = H.length + L.length := by simp
theorem hp_old {H : Heap} {b : Nat} {blk : Blk} (h : H[b]? = some (some blk)) (L : Heap) : (H ++ L)[b]? = some (some blk) := by
  rw [List.getElem?_append_left]
  · exact h
  · exact (List.getElem?_eq_some_iff.1 h).1
theorem callJ_ro0 {P : Program} {f : FuncId} {ys : List D} {H H' : Heap} {d : D} (h : ∀ A c, CallJ P f [.v (.slice A 0 c)] H d H') : CallJ P f [.ro 0 ys] H d H' := by
  refine ⟨(h none 0).1, fun ρ S w vals hS hv => ?_⟩
  simp only [RdT, Rd] at hv
  obtain ⟨u, r, rfl, ⟨_, A, c, rfl, _⟩, rfl⟩ := hv
  exact (h A c).2 ρ S w _ hS (by simp [RdT, Rd])
theorem callJ_sl0 {P : Program} {f : FuncId} {b off : Nat} {cp : Cap} {H H' : Heap} {d : D} (h : ∀ A c, CallJ P f [.v (.slice A 0 c)] H d H') : CallJ P f [.sl b off 0 cp] H d H' := by
  refine ⟨(h none 0).1, fun ρ S w vals hS hv => ?_⟩
  cases cp with
  | exact c es =>
    simp only [RdT, Rd] at hv
    obtain ⟨u, r, rfl, ⟨_, _, _, A, rfl, _⟩, rfl⟩ := hv
    exact (h A c).2 ρ S w _ hS (by simp [RdT, Rd])
  | toEnd es =>
    simp only [RdT, Rd] at hv
    obtain ⟨u, r, rfl, ⟨_, A, c, rfl, _⟩, rfl⟩ := hv
    exact (h A c).2 ρ S w _ hS (by simp [RdT, Rd])
theorem fin_nil {ds : List D} {H : Heap} {e : TypeId} {es : Nat} {f : Bool} : Fin ds H (.v (.slice none 0 0)) H (.sl (H.length + 1) 0 0 (.toEnd es)) (H ++ [none, some ⟨e, [], f⟩]) := by
  intro ρ0 S0 w0 ρ S w u hS0 hle hS hr
  let ρ2 : Nat → Nat × Nat := fun b => if b < H.length then ρ b else (0, 0)
  have e1 : ∀ b, b < H.length → ρ2 b = ρ b := fun b hb => if_pos hb
  have e2 : ∀ b, ¬ b < H.length → ρ2 b = (0, 0) := fun b hb => if_neg hb
  have old : ∀ b blk, (H ++ [none, some ⟨e, [], f⟩])[b]? = some (some blk) → (b < H.length ∧ H[b]? = some (some blk)) ∨ (b = H.length + 1 ∧ blk = ⟨e, [], f⟩) := by
    intro b blk hb
    rcases Nat.lt_or_ge b H.length with h | h
    · rw [List.getElem?_append_left h] at hb; exact .inl ⟨h, hb⟩
    · rw [List.getElem?_append_right h] at hb
      rcases hk : b - H.length with _ | _ | k
      · simp [hk] at hb
      · simp only [hk, List.getElem?_cons_succ, List.getElem?_cons_zero, Option.some.injEq] at hb
        exact .inr ⟨by omega, hb.symm⟩
      · simp [hk] at hb
  have live : ∀ k, Live ρ2 (H ++ [none, some ⟨e, [], f⟩]) k → Live ρ H k := by
    rintro k ⟨b, blk, hb, hz, hk⟩
    rcases old b blk hb with ⟨h1, h2⟩ | ⟨h1, _⟩
    · rw [e1 b h1] at hz hk; exact ⟨b, blk, h2, hz, hk⟩
    · rw [e2 b (by omega)] at hz; exact absurd hz (by simp)
  have hle2 : (ctx ρ S w H).le (ctx ρ2 S w (H ++ [none, some ⟨e, [], f⟩])) :=
    ⟨by simp, e1, fun _ h => h, fun _ _ => rfl, fun _ h => .inl h, fun k hk => ⟨hk.1, fun hl => hk.2 (live k hl)⟩, fun _ _ => rfl, Nat.le_refl _, rfl, rfl, rfl⟩
  refine ⟨ρ2, S, ⟨fun k hk => ⟨(hS.sub k hk).1, fun hl => (hS.sub k hk).2 (live k hl)⟩, ?_, ?_, ?_, hS.glob⟩, hle.trans hle2, ?_⟩
  · intro b blk hb hz
    rcases old b blk hb with ⟨h1, h2⟩ | ⟨_, rfl⟩
    · rw [e1 b h1] at hz; exact hS.none b blk h2 hz
    · rfl
  · intro b blk hb hz
    rcases old b blk hb with ⟨h1, h2⟩ | ⟨h1, _⟩
    · rw [e1 b h1] at hz ⊢
      obtain ⟨cur, hc⟩ := hS.blk b blk h2 hz
      exact ⟨cur, hc.heap, hc.size, hc.pre.mono hle2 _ _, hc.full⟩
    · rw [e2 b (by omega)] at hz; exact absurd hz (by simp)
  · intro b b' blk blk' hb hb' hz hz' hk
    rcases old b blk hb with ⟨h1, h2⟩ | ⟨h1, _⟩
    · rcases old b' blk' hb' with ⟨h1', h2'⟩ | ⟨h1', _⟩
      · rw [e1 b h1] at hz hk; rw [e1 b' h1'] at hz' hk
        exact hS.inj b b' blk blk' h2 h2' hz hz' hk
      · rw [e2 b' (by omega)] at hz'; exact absurd hz' (by simp)
    · rw [e2 b (by omega)] at hz; exact absurd hz (by simp)
  · simp only [Rd] at hr ⊢
    refine ⟨by simp, none, 0, hr, Nat.le_refl _, by decide, ?_, fun h => absurd h (by omega)⟩
    show 0 + 0 * es = (ρ2 (H.length + 1)).2
    rw [e2 _ (by omega)]; simp
end Go.VD
end
