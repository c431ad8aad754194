/- Arguments of a law, read as data by their types. -/
import Derived.Test.YthnhfkpihbjddaaVp
import Derived.ProofKit
import Derived.OpenShut
namespace Go.VD
set_option linter.unusedVariables false
set_option linter.unusedSimpArgs false

/-- the cells of a value of type t -/
inductive TC (T : Tbl) : TypeId → List D → Prop
  | bool {t : TypeId} {a b : Nat} {z : List Value} (h : T t = some ⟨.bool, a, b, z⟩) (x : Bool) : TC T t [.v (.bool x)]
  | int {t : TypeId} {k : IntKind} {a b : Nat} {z : List Value} (h : T t = some ⟨.int k, a, b, z⟩) (n : Int) (hn : (Lit.int k n).wf = true) : TC T t [.v (.int k n)]
  | str {t : TypeId} {a b : Nat} {z : List Value} (h : T t = some ⟨.str, a, b, z⟩) (s : ByteArray) (hs : s.size ≤ maxLen) : TC T t [.v (.string s)]
  | slice {t e : TypeId} {a b : Nat} {z : List Value} (h : T t = some ⟨.slice e, a, b, z⟩) (chunks : List (List D)) (hl : chunks.length ≤ maxLen) (hc : ∀ c ∈ chunks, TC T e c) : TC T t [.ro chunks.length chunks.flatten]
  | struct {t : TypeId} {fs : List (Nat × TypeId)} {a b : Nat} {z : List Value} (h : T t = some ⟨.struct fs, a, b, z⟩) (parts : List (List D)) (hl : parts.length = fs.length)
      (hp : ∀ (i : Nat) (p : List D) (f : Nat × TypeId), parts[i]? = some p → fs[i]? = some f → TC T f.2 p) : TC T t parts.flatten
  | arr {t e : TypeId} {n a b : Nat} {z : List Value} (h : T t = some ⟨.arr n e, a, b, z⟩) (chunks : List (List D)) (hl : chunks.length = n) (hc : ∀ c ∈ chunks, TC T e c) : TC T t chunks.flatten

/-- the fields follow one another -/
def contig (T : Tbl) : List (Nat × TypeId) → Nat → Nat → Bool
  | [], off, size => off == size
  | (o, t) :: r, off, size => match T t with
    | some ti => o == off && contig T r (off + ti.size) size
    | none => false
def canRead (T : Tbl) : Nat → TypeId → Bool
  | 0, _ => false
  | n + 1, t => match T t with
    | some ⟨.bool, s, _, _⟩ => s == 1
    | some ⟨.int _, s, _, _⟩ => s == 1
    | some ⟨.str, s, _, _⟩ => s == 1
    | some ⟨.slice e, s, _, _⟩ => (s == 1 && (match T e with | some te => te.size != 0 | none => false)) && canRead T n e
    | some ⟨.struct fs, s, _, _⟩ => contig T fs 0 s && fs.all fun f => canRead T n f.2
    | some ⟨.arr m e, s, _, _⟩ => canRead T n e && (match T e with | some ti => s == m * ti.size | none => false)
    | _ => false

section
variable {H : Type} {enc : TypeId × Value → H} {P : Program} {T : Tbl}

theorem TiOk.cellsOf {t : TypeId} {ti : TI} (h : TiOk P t ti) : P.cellsOf t = ti.size := by
  obtain ⟨i, z, d, hi, _, h1, _⟩ := h.ex
  simp [Program.cellsOf, hi, h1]

theorem exists_list {α : Type} (p : Nat → α → Prop) : ∀ (n : Nat), (∀ i, i < n → ∃ x, p i x) → ∃ l : List α, l.length = n ∧ ∀ i x, l[i]? = some x → p i x
  | 0, _ => ⟨[], rfl, by simp⟩
  | n + 1, h => by
    obtain ⟨l, hl, hp⟩ := exists_list p n fun i hi => h i (by omega)
    obtain ⟨x, hx⟩ := h n (by omega)
    refine ⟨l ++ [x], by simp [hl], fun i y hy => ?_⟩
    rcases getElem?_snoc_cases hy with ⟨_, hy⟩ | ⟨rfl, rfl⟩
    · exact hp i y hy
    · rw [hl]; exact hx

theorem RdL.flatten {E : Ctx} : ∀ (ds : List (List D)) (us : List (List Value)), ds.length = us.length → (∀ (i : Nat) (d : List D) (u : List Value), ds[i]? = some d → us[i]? = some u → RdL E d u) → RdL E ds.flatten us.flatten
  | [], us, hl, _ => by
    have : us = [] := List.eq_nil_of_length_eq_zero hl.symm
    subst this; simp [RdL]
  | d :: ds, [], hl, _ => by simp at hl
  | d :: ds, u :: us, hl, h => by
    simp only [List.flatten_cons]
    exact (h 0 d u (by simp) (by simp)).append _ _ _ _ (RdL.flatten ds us (by simpa using hl) fun i d' u' hd hu => h (i + 1) d' u' (by simpa using hd) (by simpa using hu))

theorem NamelessL.flatten {ds : List (List D)} (h : ∀ d ∈ ds, NamelessL d) : NamelessL ds.flatten := NamelessL.iff.2 fun x hx => by
  obtain ⟨d, hd, hx⟩ := List.mem_flatten.1 hx
  exact NamelessL.iff.1 (h d hd) x hx

/-- rows of equal length, cell by cell -/
theorem RdAt.flatten {E : Ctx} {sz : Nat} : ∀ (ds : List (List D)) (ad : Addr) (k : Nat), (∀ d ∈ ds, d.length = sz) → (∀ (i : Nat) (d : List D), ds[i]? = some d → ∀ (j : Nat) (x : D), d[j]? = some x → ∃ u, E.w.cell? (ad.add ((k + i) * sz + j)) = some u ∧ u.oneCell' = true ∧ Rd E x u) →
    ∀ (j : Nat) (x : D), ds.flatten[j]? = some x → ∃ u, E.w.cell? (ad.add (k * sz + j)) = some u ∧ u.oneCell' = true ∧ Rd E x u
  | [], ad, k, _, _, j, x, hx => by simp at hx
  | d :: ds, ad, k, hl, h, j, x, hx => by
    have hd := hl d (by simp)
    rw [List.flatten_cons] at hx
    by_cases hj : j < d.length
    · rw [List.getElem?_append_left hj] at hx
      have := h 0 d (by simp) j x hx
      simpa using this
    · rw [List.getElem?_append_right (by omega)] at hx
      have := RdAt.flatten ds ad (k + 1) (fun d' hd' => hl d' (by simp [hd'])) (fun i d' hd' j x hx => by
        have := h (i + 1) d' (by simpa using hd') j x hx
        rwa [show k + (i + 1) = k + 1 + i by omega] at this) (j - d.length) x hx
      rw [Nat.add_mul, Nat.one_mul, show k * sz + sz + (j - d.length) = k * sz + j by omega] at this
      exact this

theorem trod_read (hT : TblOk P T) {ρ : Nat → Nat × Nat} {w : World} {base : Nat} {spare : Nat → Bool} {held : Bool} : ∀ (n : Nat) (fuel : Nat) (t : TypeId) (cs : List Value) (x : DataW H × List MemPlace), canRead T n t = true →
    DataW.trod enc P w base spare held fuel t cs = some x → ∃ ds, RdL (ctx ρ (fun k => k < w.heap.size) w []) ds cs ∧ TC T t ds ∧ NamelessL ds
  | 0, fuel, t, cs, x, h, _ => by simp [canRead] at h
  | n + 1, fuel, t, cs, x, hcan, h => by
    simp only [canRead] at hcan
    have scalar : ∀ (v : Value) (d : TypeDesc), P.underlying t = some d → cs = [v] → v.oneCell' = true → RdL (ctx ρ (fun k => k < w.heap.size) w []) [.v v] cs := by
      intro v d _ hcs ho
      subst hcs
      simp only [RdL]
      exact ⟨v, [], rfl, ho, by simp [Rd], rfl⟩
    split at hcan
    · rename_i sz b z ht
      have hu := (hT.ok t _ ht).bool rfl
      have : ∃ y, cs = [.bool y] := by
        cases fuel with
        | zero => simp [DataW.trod] at h
        | succ m => unfold DataW.trod at h; rw [hu] at h; split at h <;> simp_all
      obtain ⟨y, hcs⟩ := this
      exact ⟨[.v (.bool y)], scalar _ _ hu hcs rfl, .bool ht y, by simp [NamelessL, Nameless]⟩
    · rename_i k sz b z ht
      have hu := (hT.ok t _ ht).int rfl
      have : ∃ y, cs = [.int k y] ∧ (Lit.int k y).wf = true := by
        cases fuel with
        | zero => simp [DataW.trod] at h
        | succ m => unfold DataW.trod at h; rw [hu] at h; split at h <;> simp_all
      obtain ⟨y, hcs, hwf⟩ := this
      exact ⟨[.v (.int k y)], scalar _ _ hu hcs rfl, .int ht y hwf, by simp [NamelessL, Nameless]⟩
    · rename_i sz b z ht
      have hu := (hT.ok t _ ht).str rfl
      have : ∃ y, cs = [.string y] ∧ y.size ≤ maxLen := by
        cases fuel with
        | zero => simp [DataW.trod] at h
        | succ m => unfold DataW.trod at h; rw [hu] at h; split at h <;> simp_all
      obtain ⟨y, hcs, hwf⟩ := this
      exact ⟨[.v (.string y)], scalar _ _ hu hcs rfl, .str ht y hwf, by simp [NamelessL, Nameless]⟩
    · rename_i e sz b z ht
      simp only [Bool.and_eq_true] at hcan
      have hu := (hT.ok t _ ht).slice rfl
      rcases DataW.trod_slice hu h with ⟨hcs, _⟩ | ⟨a, len, cap, elems, rest, m, _, hcs, _, hb, hlc, hcm, hel, hread, _⟩
      · refine ⟨[.ro 0 []], ?_, .slice ht [] (by simp) (by simp), by simp [NamelessL, Nameless]⟩
        subst hcs
        simp only [RdL]
        exact ⟨_, [], rfl, rfl, by simp only [Rd]; exact ⟨by simp [NamelessL], none, 0, rfl, Nat.le_refl _, Nat.zero_le _, fun h => absurd h (by omega)⟩, rfl⟩
      · subst hcs
        have each : ∀ i, i < len → ∃ ds : List D, (∃ us, w.cells? base (a.add (i * P.cellsOf e)) (P.cellsOf e) = some us ∧ RdL (ctx ρ (fun k => k < w.heap.size) w []) ds us) ∧ TC T e ds ∧ NamelessL ds := by
          intro i hi
          have h1 := hread i hi
          rw [List.getElem?_eq_getElem (by omega)] at h1
          obtain ⟨us, h2, h3⟩ := Option.bind_eq_some_iff.1 h1
          obtain ⟨ds, h4, h5, h6⟩ := trod_read hT n m e us _ hcan.2 h3
          exact ⟨ds, ⟨us, h2, h4⟩, h5, h6⟩
        obtain ⟨chunks, hcl, hch⟩ := exists_list _ len each
        have cellsAt : ∀ i us, w.cells? base (a.add (i * P.cellsOf e)) (P.cellsOf e) = some us → us.length = P.cellsOf e ∧ ∀ j u, us[j]? = some u → w.cell? (a.add (i * P.cellsOf e + j)) = some u := by
          intro i us hus
          unfold World.cells? at hus
          split at hus
          · have hl := mapM_some_length hus
            rw [List.length_range] at hl
            refine ⟨hl, fun j u hj => ?_⟩
            have hjl : j < P.cellsOf e := by rw [← hl]; exact (List.getElem?_eq_some_iff.1 hj).1
            have := mapM_some_get hus j j (by simp [hjl])
            rw [add_add] at this
            rw [this, hj]
          · cases hus
        refine ⟨[.ro chunks.length chunks.flatten], ?_, .slice ht chunks (by omega) (fun c hc => ?_), ?_⟩
        · simp only [RdL]
          refine ⟨_, [], rfl, rfl, ?_, rfl⟩
          simp only [Rd]
          refine ⟨NamelessL.flatten fun d hd => ?_, some a, cap, by rw [hcl], by omega, hcm, fun h0 => ⟨a, rfl, ?_, ?_⟩⟩
          · obtain ⟨i, hi⟩ := List.getElem?_of_mem hd
            exact (hch i d hi).2.2
          · -- the row lies in the world
            have hpos : 0 < len := by omega
            obtain ⟨c0, hc0⟩ : ∃ c0, chunks[0]? = some c0 := ⟨_, List.getElem?_eq_getElem (by omega)⟩
            obtain ⟨⟨us, hus, hr⟩, htc, _⟩ := hch 0 c0 hc0
            by_cases hz : P.cellsOf e = 0
            · exfalso
              have h2 := hcan.1.2
              split at h2
              · rename_i te hte
                rw [(hT.ok e _ hte).cellsOf] at hz
                simp [hz] at h2
              · cases h2
            · obtain ⟨hl, hcell⟩ := cellsAt 0 us hus
              have : ∃ u, us[0]? = some u := ⟨_, List.getElem?_eq_getElem (by omega)⟩
              obtain ⟨u, hu0⟩ := this
              have := hcell 0 u hu0
              have hlt := World.block_lt_of_cell? w _ this
              rwa [block_add] at hlt
          · refine RdAt.mk _ _ _ fun j x hx => ?_
            have hlen : ∀ d ∈ chunks, d.length = P.cellsOf e := fun d hd => by
              obtain ⟨i, hi⟩ := List.getElem?_of_mem hd
              obtain ⟨⟨us, hus, hr⟩, _⟩ := hch i d hi
              rw [← hr.length, (cellsAt i us hus).1]
            have := RdAt.flatten (E := ctx ρ (fun k => k < w.heap.size) w []) chunks a 0 hlen (fun i d hd j x hx => by
              obtain ⟨⟨us, hus, hr⟩, _⟩ := hch i d hd
              obtain ⟨u, hu1, ho, hd1⟩ := hr.get _ _ j x hx
              exact ⟨u, by rw [Nat.zero_add]; exact (cellsAt i us hus).2 j u hu1, ho, hd1⟩) j x hx
            simpa using this
        · obtain ⟨i, hi⟩ := List.getElem?_of_mem hc
          exact (hch i c hi).2.1
        · simp only [NamelessL, Nameless, and_true]
          exact NamelessL.flatten fun d hd => by
            obtain ⟨i, hi⟩ := List.getElem?_of_mem hd
            exact (hch i d hi).2.2
    · rename_i fs sz b z ht
      simp only [Bool.and_eq_true] at hcan
      obtain ⟨F, hF, hm⟩ := (hT.ok t _ ht).struct rfl
      obtain ⟨xs, m, _, _, hcs, hxs, hread⟩ := DataW.trod_struct hF h
      rw [(hT.ok t _ ht).cellsOf] at hcs
      have hall := List.all_eq_true.1 hcan.2
      have hfl : fs.length = F.size := by rw [← hm]; simp
      have each : ∀ i, i < fs.length → ∃ ds : List D, (∀ f, fs[i]? = some f → RdL (ctx ρ (fun k => k < w.heap.size) w []) ds ((cs.drop f.1).take (P.cellsOf f.2)) ∧ TC T f.2 ds) ∧ NamelessL ds := by
        intro i hi
        have hFi : F[i]? = some (F[i]'(by omega)) := Array.getElem?_eq_getElem (by omega)
        have h1 := hread i _ hFi
        rw [List.getElem?_eq_getElem (by omega)] at h1
        have hfi : fs[i]? = some ((F[i]'(by omega)).offset, (F[i]'(by omega)).type) := by
          have e : (F.toList.map fun f => (f.offset, f.type))[i]? = fs[i]? := by rw [hm]
          rw [← e, List.getElem?_map, Array.getElem?_toList, hFi]; rfl
        obtain ⟨ds, h4, h5, h6⟩ := trod_read hT n m _ _ _ (hall _ (List.mem_of_getElem? hfi)) h1
        refine ⟨ds, fun f hf => ?_, h6⟩
        rw [hfi] at hf; injection hf with hf; subst hf
        exact ⟨h4, h5⟩
      obtain ⟨parts, hpl, hp⟩ := exists_list _ fs.length each
      refine ⟨parts.flatten, ?_, .struct ht parts hpl (fun i p f hpi hfi => ((hp i p hpi).1 f hfi).2), NamelessL.flatten fun d hd => ?_⟩
      · have hcont : ∀ (fs : List (Nat × TypeId)) (off : Nat), contig T fs off sz = true → (fs.map fun f => (cs.drop f.1).take (P.cellsOf f.2)).flatten = cs.drop off := by
          intro fs
          induction fs with
          | nil =>
            intro off hc
            simp only [contig, beq_iff_eq] at hc
            have hcl : cs.length = sz := hcs
            rw [List.drop_eq_nil_of_le (by rw [hcl, hc]; exact Nat.le_refl _)]; rfl
          | cons f fs ih =>
            intro off hc
            obtain ⟨o, ft⟩ := f
            simp only [contig] at hc
            split at hc
            · rename_i ti hti
              simp only [Bool.and_eq_true, beq_iff_eq] at hc
              obtain ⟨rfl, hc⟩ := hc
              rw [List.map_cons, List.flatten_cons, ih _ hc, (hT.ok ft _ hti).cellsOf]
              rw [← List.drop_drop]
              exact List.take_append_drop _ _
            · cases hc
        have h0 := hcont fs 0 hcan.1
        rw [List.drop_zero] at h0
        rw [← h0]
        refine RdL.flatten _ _ (by simp [hpl]) fun i d u hd hu => ?_
        rw [List.getElem?_map] at hu
        cases hfi : fs[i]? with
        | none => simp [hfi] at hu
        | some f =>
          simp only [hfi, Option.map_some, Option.some.injEq] at hu
          subst hu
          exact ((hp i d hd).1 f hfi).1
      · obtain ⟨i, hi⟩ := List.getElem?_of_mem hd
        exact (hp i d hi).2
    · rename_i k e sz b z ht
      simp only [Bool.and_eq_true] at hcan
      have hu := (hT.ok t _ ht).arr rfl
      obtain ⟨xs, m, _, _, hcs, hxs, hread⟩ := DataW.trod_array hu h
      rw [(hT.ok t _ ht).cellsOf] at hcs
      have each : ∀ i, i < k → ∃ ds : List D, (RdL (ctx ρ (fun k => k < w.heap.size) w []) ds ((cs.drop (i * P.cellsOf e)).take (P.cellsOf e)) ∧ TC T e ds) ∧ NamelessL ds := by
        intro i hi
        have h1 := hread i hi
        rw [List.getElem?_eq_getElem (by omega)] at h1
        obtain ⟨ds, h4, h5, h6⟩ := trod_read hT n m e _ _ hcan.1 h1
        exact ⟨ds, ⟨h4, h5⟩, h6⟩
      obtain ⟨chunks, hcl, hch⟩ := exists_list _ k each
      refine ⟨chunks.flatten, ?_, .arr ht chunks hcl (fun c hc => ?_), NamelessL.flatten fun d hd => ?_⟩
      · have hsz : sz = k * P.cellsOf e := by
          have h2 := hcan.2
          split at h2
          · rename_i te hte
            rw [(hT.ok e _ hte).cellsOf]; simpa using h2
          · cases h2
        have hcont : ∀ (m i : Nat), i + m = k → ((List.range' i m).map fun i => (cs.drop (i * P.cellsOf e)).take (P.cellsOf e)).flatten = cs.drop (i * P.cellsOf e) := by
          intro m
          induction m with
          | zero =>
            intro i hi
            have hik : i = k := by omega
            have : cs.length ≤ i * P.cellsOf e := by rw [hcs, hik]; exact Nat.le_of_eq hsz
            simp [List.drop_eq_nil_of_le this]
          | succ m ih =>
            intro i hi
            rw [List.range'_succ, List.map_cons, List.flatten_cons, ih (i + 1) (by omega)]
            rw [Nat.add_mul, Nat.one_mul, ← List.drop_drop]
            exact List.take_append_drop _ _
        have h0 := hcont k 0 (by omega)
        rw [Nat.zero_mul, List.drop_zero] at h0
        rw [← h0]
        refine RdL.flatten _ _ (by simp [hcl]) fun i d u hd hu => ?_
        have hik : i < k := by rw [← hcl]; exact (List.getElem?_eq_some_iff.1 hd).1
        rw [List.getElem?_map, List.getElem?_range' hik] at hu
        simp only [Option.map_some, Option.some.injEq] at hu
        subst hu
        have := (hch i d hd).1.1
        simpa using this
      · obtain ⟨i, hi⟩ := List.getElem?_of_mem hc
        exact (hch i c hi).1.2
      · obtain ⟨i, hi⟩ := List.getElem?_of_mem hd
        exact (hch i d hi).2
    · cases hcan
end
end Go.VD
