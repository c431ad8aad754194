/- Rows that list package-level variables: what their condition says of the memory. -/
import Derived.Test.YthnhfkpihbjddaaVr
import Derived.Test.YthnhfkpihbjddaaVs
import Derived.Test.YthnhfkpihbjddaaEb
import Derived.ChangeArms
import Derived.OpenShut
import Derived.FnData
namespace Go.VD
open Go.ChangeShapes Go.WideShapes Go.ChangeAt Go.RowKit
set_option linter.unusedVariables false
set_option linter.unusedSimpArgs false

mutual
/-- the cells of plain data -/
def flatD {H : Type} : DataW H → Option (List Value)
  | .lit (.int k n) => some [.int k n]
  | .lit (.bool b) => some [.bool b]
  | .agg ps => flatDs ps
  | _ => none
def flatDs {H : Type} : List (DataW H) → Option (List Value)
  | [] => some []
  | d :: r => match flatD d, flatDs r with
    | some a, some b => some (a ++ b)
    | _, _ => none
end
section
variable {H : Type} {enc : TypeId × Value → H} {P : Program} {T : Tbl}
theorem flat_rows {w : World} {base : Nat} {spare : Nat → Bool} {held : Bool} {m sz : Nat} {e : TypeId} (ih : ∀ (cs : List Value) (x : DataW H × List MemPlace) (vals : List Value), DataW.trod enc P w base spare held m e cs = some x → flatD x.1 = some vals → cs = vals) :
    ∀ (xs : List (DataW H × List MemPlace)) (cs vals : List Value), cs.length = xs.length * sz → (∀ (i : Nat) (x : DataW H × List MemPlace), xs[i]? = some x → DataW.trod enc P w base spare held m e ((cs.drop (i * sz)).take sz) = some x) → flatDs (xs.map (·.1)) = some vals → cs = vals
  | [], cs, vals, hl, _, hf => by
    simp only [List.map_nil, flatDs, Option.some.injEq] at hf
    subst hf
    exact List.eq_nil_of_length_eq_zero (by simpa using hl)
  | x :: xs, cs, vals, hl, h, hf => by
    simp only [List.map_cons, flatDs] at hf
    split at hf
    · rename_i a b ha hb
      injection hf with hf; subst hf
      have h0 := h 0 x (by simp)
      simp only [Nat.zero_mul, List.drop_zero] at h0
      have e1 := ih _ _ _ h0 ha
      have hl' : (cs.drop sz).length = xs.length * sz := by
        rw [List.length_drop, hl, List.length_cons, Nat.add_mul, Nat.one_mul]; omega
      have e2 := flat_rows ih xs (cs.drop sz) b hl' (fun i y hy => by
        have := h (i + 1) y (by simpa using hy)
        rw [List.drop_drop]
        rwa [Nat.add_mul, Nat.one_mul, Nat.add_comm] at this) hb
      rw [← e1, ← e2, List.take_append_drop]
    · cases hf
theorem flat_fields {w : World} {base : Nat} {spare : Nat → Bool} {held : Bool} {m sz : Nat} (hT : TblOk P T) {cs : List Value} (hcs : cs.length = sz) :
    ∀ (fs : List (Nat × TypeId)) (off : Nat) (xs : List (DataW H × List MemPlace)) (vals : List Value), (∀ f ∈ fs, ∀ (cs : List Value) (x : DataW H × List MemPlace) (vals : List Value), DataW.trod enc P w base spare held m f.2 cs = some x → flatD x.1 = some vals → cs = vals) →
      contig T fs off sz = true → xs.length = fs.length → (∀ (i : Nat) (f : Nat × TypeId), fs[i]? = some f → DataW.trod enc P w base spare held m f.2 ((cs.drop f.1).take (P.cellsOf f.2)) = xs[i]?) → flatDs (xs.map (·.1)) = some vals → cs.drop off = vals
  | [], off, xs, vals, _, hc, hl, _, hf => by
    have hx : xs = [] := List.eq_nil_of_length_eq_zero (by simpa using hl)
    subst hx
    simp only [List.map_nil, flatDs, Option.some.injEq] at hf
    subst hf
    simp only [contig, beq_iff_eq] at hc
    rw [List.drop_eq_nil_of_le (by rw [hcs, hc]; exact Nat.le_refl _)]
  | f :: fs, off, [], vals, _, hc, hl, _, hf => by simp at hl
  | (o, ft) :: fs, off, x :: xs, vals, ih, hc, hl, h, hf => by
    simp only [List.map_cons, flatDs] at hf
    simp only [contig] at hc
    split at hc
    · rename_i ti hti
      simp only [Bool.and_eq_true, beq_iff_eq] at hc
      obtain ⟨rfl, hc⟩ := hc
      split at hf
      · rename_i a b ha hb
        injection hf with hf; subst hf
        have h0 := h 0 (o, ft) (by simp)
        rw [List.getElem?_cons_zero] at h0
        have e1 := ih (o, ft) (by simp) _ _ _ h0 ha
        have e2 := flat_fields hT hcs fs (o + ti.size) xs b (fun f hf => ih f (by simp [hf])) hc (by simpa using hl) (fun i f hi => by simpa using h (i + 1) f (by simpa using hi)) hb
        rw [(hT.ok ft _ hti).cellsOf] at e1
        rw [← e1, ← e2, ← List.drop_drop, List.take_append_drop]
      · cases hf
    · cases hc
/-- data that are plain determine the cells -/
theorem trod_flat (hT : TblOk P T) {w : World} {base : Nat} {spare : Nat → Bool} {held : Bool} : ∀ (n : Nat) (fuel : Nat) (t : TypeId), canRead T n t = true → ∀ (cs : List Value) (x : DataW H × List MemPlace) (vals : List Value),
    DataW.trod enc P w base spare held fuel t cs = some x → flatD x.1 = some vals → cs = vals
  | 0, fuel, t, h => by simp [canRead] at h
  | n + 1, fuel, t, hcan => by
    intro cs x vals h hf
    simp only [canRead] at hcan
    split at hcan
    · rename_i sz b z ht
      have hu := (hT.ok t _ ht).bool rfl
      cases fuel with
      | zero => simp [DataW.trod] at h
      | succ m =>
        unfold DataW.trod at h; rw [hu] at h
        split at h <;> simp_all
        rename_i y _
        subst h
        simp only [flatD, Option.some.injEq] at hf
        exact hf
    · rename_i k sz b z ht
      have hu := (hT.ok t _ ht).int rfl
      cases fuel with
      | zero => simp [DataW.trod] at h
      | succ m =>
        unfold DataW.trod at h; rw [hu] at h
        split at h <;> simp_all
        obtain ⟨⟨rfl, _⟩, rfl⟩ := h
        simp only [flatD, Option.some.injEq] at hf
        exact hf
    · rename_i sz b z ht
      have hu := (hT.ok t _ ht).str rfl
      cases fuel with
      | zero => simp [DataW.trod] at h
      | succ m =>
        unfold DataW.trod at h; rw [hu] at h
        split at h <;> simp_all
        obtain ⟨_, rfl⟩ := h
        simp [flatD] at hf
    · rename_i e sz b z ht
      have hu := (hT.ok t _ ht).slice rfl
      rcases DataW.trod_slice hu h with ⟨_, hx⟩ | ⟨a, len, cap, elems, rest, m, _, _, hx, _⟩
      · rw [hx] at hf; simp [flatD] at hf
      · rw [hx] at hf; simp [flatD] at hf
    · rename_i fs sz b z ht
      simp only [Bool.and_eq_true] at hcan
      obtain ⟨F, hF, hm⟩ := (hT.ok t _ ht).struct rfl
      obtain ⟨xs, m, _, hx, hcs, hxs, hread⟩ := DataW.trod_struct hF h
      rw [(hT.ok t _ ht).cellsOf] at hcs
      rw [hx] at hf
      simp only [flatD] at hf
      have hall := List.all_eq_true.1 hcan.2
      have hfl : fs.length = F.size := by rw [← hm]; simp
      have := flat_fields hT hcs fs 0 xs vals (fun f hf => trod_flat hT n m f.2 (hall f hf)) hcan.1 (by omega) (fun i f hi => by
        have hlt := (List.getElem?_eq_some_iff.1 hi).1
        have hFi : F[i]? = some (F[i]'(by omega)) := Array.getElem?_eq_getElem (by omega)
        have e : (F.toList.map fun f => (f.offset, f.type))[i]? = fs[i]? := by rw [hm]
        rw [List.getElem?_map, Array.getElem?_toList, hFi, hi] at e
        simp only [Option.map_some, Option.some.injEq] at e
        subst e
        exact hread i _ hFi) hf
      simpa using this
    · rename_i k e sz b z ht
      simp only [Bool.and_eq_true] at hcan
      have hu := (hT.ok t _ ht).arr rfl
      obtain ⟨xs, m, _, hx, hcs, hxs, hread⟩ := DataW.trod_array hu h
      rw [hx] at hf
      simp only [flatD] at hf
      have h2 := hcan.2
      split at h2
      · rename_i te hte
        rw [(hT.ok e _ hte).cellsOf] at hread
        rw [(hT.ok t _ ht).cellsOf] at hcs
        simp only [beq_iff_eq] at h2
        exact flat_rows (sz := te.size) (fun cs x vals => trod_flat hT n m e hcan.1 cs x vals) xs cs vals (by rw [hcs, h2, hxs]) (fun i y hy => by
          have := hread i (by have := (List.getElem?_eq_some_iff.1 hy).1; omega)
          rw [this, hy]) hf
      · cases h2
    · cases hcan
end
/-- each listed variable is the one whose cells the calculus takes for granted -/
def globB (P : Program) (T : Tbl) (laid : List (String × DataW Unit)) : Bool := glob.all fun p => laid.any fun q => ((match P.globalNamed q.1 with
    | some g => Nat.beq g p.1
    | none => false) && (match (P.globals[p.1]?).map (·.type) with
    | some t => canRead T 20 t
    | none => false)) && (match flatD q.2 with
    | some vs => sameScalars p.2 vs
    | none => false)
theorem laidVars_mem {P : Program} {w : World} : ∀ (laid : List (String × DataW Unit)) (ps : List MemPlace), DataW.LaidVars P w laid ps → ∀ q ∈ laid, ∃ g t cs fuel p, P.globalNamed q.1 = some g ∧ (P.globals[g]?).map (·.type) = some t ∧ w.var? P q.1 = some cs ∧ DataW.trod (fun _ => ()) P w 0 (fun _ => true) false fuel t cs.toList = some (q.2, p)
  | [], _, _, q, hq => by simp at hq
  | (n, d) :: r, ps, h, q, hq => by
    obtain ⟨g, t, cs, fuel, p, q', h1, h2, h3, h4, h5, _⟩ := h
    rcases List.mem_cons.1 hq with rfl | hq
    · exact ⟨g, t, cs, fuel, p, h1, h2, h3, h4⟩
    · exact laidVars_mem r q' h5 q hq
theorem lookup_mem : ∀ {l : List (Nat × List Value)} {g : Nat} {xs : List Value}, l.lookup g = some xs → (g, xs) ∈ l
  | [], g, xs, h => by simp at h
  | (k, ys) :: l, g, xs, h => by
    rw [List.lookup_cons] at h
    split at h
    · rename_i hk
      injection h with h
      have : g = k := by simpa using hk
      subst this; subst h; simp
    · exact List.mem_cons_of_mem _ (lookup_mem h)
theorem gok_of_laid {P : Program} {T : Tbl} (hT : TblOk P T) {W : World} {laid : List (String × DataW Unit)} (hB : globB P T laid = true) (h : laidMet P laid W) : GOK (fun k => k < W.heap.size) W := by
  intro g xs hg
  obtain ⟨ps, hv, _⟩ := h
  have hm := lookup_mem hg
  unfold globB at hB
  have h1 := List.all_eq_true.1 hB _ hm
  obtain ⟨q, hq, h2⟩ := List.any_eq_true.1 h1
  simp only [Bool.and_eq_true] at h2
  obtain ⟨⟨h3, h4⟩, h5⟩ := h2
  obtain ⟨g', t, cs, fuel, p, e1, e2, e3, e4⟩ := laidVars_mem laid ps hv q hq
  rw [e1] at h3
  have hgg : g' = g := Nat.eq_of_beq_eq_true h3
  subst hgg
  rw [e2] at h4
  split at h5
  · rename_i vs hvs
    obtain ⟨rfl, hone⟩ := sameScalars_eq h5
    have hcs := trod_flat hT 20 fuel t h4 _ _ _ e4 hvs
    refine ⟨?_, RdAt.mk _ _ _ fun i d hi => ?_⟩
    · have := e3
      simp only [World.var?, e1, Option.bind_some] at this
      split at this
      · rename_i hh
        exact (Array.getElem?_eq_some_iff.1 hh).1
      · cases this
    · unfold gcells at hi
      rw [List.getElem?_map] at hi
      obtain ⟨u, hu, rfl⟩ := Option.map_eq_some_iff.1 hi
      refine ⟨u, ?_, hone u (List.mem_of_getElem? hu), by simp [Rd]⟩
      have hc := World.var?_cell e1 e3 i
      rw [← Array.getElem?_toList, hcs, hu] at hc
      have ea : (⟨g', 0, none⟩ : Addr).add (0 + i) = ⟨g', i, none⟩ := by
        unfold Addr.add
        by_cases h0 : i = 0
        · subst h0; simp
        · simp [h0]
      show W.cell? _ = _
      rw [ea]; exact hc
  · cases h5
theorem gok_nil {S : Nat → Prop} {w : World} (h : glob = []) : GOK S w := fun g xs hg => by rw [h] at hg; simp at hg
theorem targ_arr {T : Tbl} {t e : TypeId} {n a b : Nat} {z : List Value} {d : D} (h : T t = some ⟨.arr n e, a, b, z⟩) (hd : ∃ ti cs, T t = some ti ∧ TC T t cs ∧ d = (if ti.td.isAgg then .agg cs else cs.headD default)) :
    ∃ chunks : List (List D), d = .agg chunks.flatten ∧ chunks.length = n ∧ ∀ c ∈ chunks, TC T e c := by
  obtain ⟨ti, cs, h1, h2, h3⟩ := hd
  rw [h] at h1; injection h1 with h1; subst h1
  obtain ⟨chunks, rfl, hl, hc⟩ := h2.arr_inv h
  exact ⟨chunks, h3, hl, hc⟩
theorem ints_inv {T : Tbl} {e : TypeId} {k : IntKind} {a b : Nat} {z : List Value} (he : T e = some ⟨.int k, a, b, z⟩) : ∀ {chunks : List (List D)}, (∀ c ∈ chunks, TC T e c) → ∃ xs : List Int, chunks.flatten = xs.map (fun x => .v (.int k x)) ∧ xs.length = chunks.length ∧ ∀ x ∈ xs, (Lit.int k x).wf = true
  | [], _ => ⟨[], rfl, rfl, by simp⟩
  | c :: cs, h => by
    obtain ⟨xs, e1, e2, e3⟩ := ints_inv he (chunks := cs) fun c hc => h c (by simp [hc])
    obtain ⟨x, rfl, hw⟩ := (h c (by simp)).int_inv he
    exact ⟨x :: xs, by simp [e1], by simp [e2], by simpa using ⟨hw, e3⟩⟩
end Go.VD
