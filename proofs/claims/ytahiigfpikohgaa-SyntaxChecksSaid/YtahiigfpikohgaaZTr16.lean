import Derived.Test.YtahiigfpikohgaaZTr6
import Derived.Test.YtahiigfpikohgaaZTr9
import Derived.ChangeArms
import Derived.OpenShut
import Derived.FnData
import Derived.Test.YtahiigfpikohgaaZTr15
import Derived.Test.YtahiigfpikohgaaZTr12
section
namespace Go.VD
open Go.ChangeShapes Go.WideShapes Go.ChangeAt Go.RowKit
set_option linter.unusedVariables false
set_option linter.unusedSimpArgs false
mutual
def flatD {H : Type} : DataW H → Option (List Value)
  | .lit (.int k n) => some [.int k n]
  | .lit (.bool b) => some [.bool b]
  | .agg ps => flatDs ps
  | _ => none
def flatDs {H : Type} : List (DataW H) → Option (List Value)
  | [] => some []
  | d :: r => match flatD d, flatDs r with
    | some a, some b => some (a ++ b)
    | _, _ => none
end
section
variable {H : Type} {enc : TypeId × Value → H} {P : Program} {T : Tbl}
theorem flat_rows {w : World} {base : Nat} {spare : Nat → Bool} {held : Bool} {m sz : Nat} {e : TypeId} (ih : ∀ (cs : List Value) (x : DataW H × List MemPlace) (vals : List Value), DataW.trod enc P w base spare held m e cs = some x → flatD x.1 = some vals → cs = vals) :
    ∀ (xs : List (DataW H × List MemPlace)) (cs vals : List Value), cs.length = xs.length * sz → (∀ (i : Nat) (x : DataW H × List MemPlace), xs[i]? = some x → DataW.trod enc P w base spare held m e ((cs.drop (i * sz)).take sz) = some x) → flatDs (xs.map (·.1)) = some vals → cs = vals
  | [], cs, vals, hl, _, hf => by
    simp only [List.map_nil, flatDs, Option.some.injEq] at hf
    subst hf
    exact List.eq_nil_of_length_eq_zero (by simpa using hl)
  | x :: xs, cs, vals, hl, h, hf => by
    simp only [List.map_cons, flatDs] at hf
    split at hf
    · rename_i a b ha hb
      injection hf with hf; subst hf
      have h0 := h 0 x (by simp)
      simp only [Nat.zero_mul, List.drop_zero] at h0
      have e1 := ih _ _ _ h0 ha
      have hl' : (cs.drop sz).length = xs.length * sz := by
        rw [List.length_drop, hl, List.length_cons, Nat.add_mul, Nat.one_mul]; omega
      have e2 := flat_rows ih xs (cs.drop sz) b hl' (fun i y hy => by
        have := h (i + 1) y (by simpa using hy)
        rw [List.drop_drop]
        rwa [Nat.add_mul, Nat.one_mul, Nat.add_comm] at this) hb
      rw [← e1, ← e2, List.take_append_drop]
    · cases hf
theorem flat_fields {w : World} {base : Nat} {spare : Nat → Bool} {held : Bool} {m sz : Nat} (hT : TblOk P T) {cs : List Value} (hcs : cs.length = sz) :
    ∀ (fs : List (Nat × TypeId)) (off : Nat) (xs : List (DataW H × List MemPlace)) (vals : List Value), (∀ f ∈ fs, ∀ (cs : List Value) (x : DataW H × List MemPlace) (vals : List Value), DataW.trod enc P w base spare held m f.2 cs = some x → flatD x.1 = some vals → cs = vals) →
      contig T fs off sz = true → xs.length = fs.length → (∀ (i : Nat) (f : Nat × TypeId), fs[i]? = some f → DataW.trod enc P w base spare held m f.2 ((cs.drop f.1).take (P.cellsOf f.2)) = xs[i]?) → flatDs (xs.map (·.1)) = some vals → cs.drop off = vals
  | [], off, xs, vals, _, hc, hl, _, hf => by
    have hx : xs = [] := List.eq_nil_of_length_eq_zero (by simpa using hl)
    subst hx
    simp only [List.map_nil, flatDs, Option.some.injEq] at hf
    subst hf
    simp only [contig, beq_iff_eq] at hc
    rw [List.drop_eq_nil_of_le (by rw [hcs, hc]; exact Nat.le_refl _)]
  | f :: fs, off, [], vals, _, hc, hl, _, hf => by simp at hl
  | (o, ft) :: fs, off, x :: xs, vals, ih, hc, hl, h, hf => by
    simp only [List.map_cons, flatDs] at hf
    simp only [contig] at hc
    split at hc
    · rename_i ti hti
      simp only [Bool.and_eq_true, beq_iff_eq] at hc
      obtain ⟨rfl, hc⟩ := hc
      split at hf
      · rename_i a b ha hb
        injection hf with hf; subst hf
        have h0 := h 0 (o, ft) (by simp)
        rw [List.getElem?_cons_zero] at h0
        have e1 := ih (o, ft) (by simp) _ _ _ h0 ha
        have e2 := flat_fields hT hcs fs (o + ti.size) xs b (fun f hf => ih f (by simp [hf])) hc (by simpa using hl) (fun i f hi => by simpa using h (i + 1) f (by simpa using hi)) hb
        rw [(hT.ok ft _ hti).cellsOf] at e1
        rw [← e1, ← e2, ← List.drop_drop, List.take_append_drop]
      · cases hf
    · cases hc
theorem trod_flat (hT : TblOk P T) {w : World} {base : Nat} {spare : Nat → Bool} {held : Bool} : ∀ (n : Nat) (fuel : Nat) (t : TypeId), canRead T n t = true → ∀ (cs : List Value) (x : DataW H × List MemPlace) (vals : List Value),
    DataW.trod enc P w base spare held fuel t cs = some x → flatD x.1 = some vals → cs = vals
  | 0, fuel, t, h => by simp [canRead] at h
  | n + 1, fuel, t, hcan => by
    intro cs x vals h hf
    simp only [canRead] at hcan
    split at hcan
    · rename_i sz b z ht
      have hu := (hT.ok t _ ht).bool rfl
      cases fuel with
      | zero => simp [DataW.trod] at h
      | succ m =>
        unfold DataW.trod at h; rw [hu] at h
        split at h <;> simp_all
        rename_i y _
        subst h
        simp only [flatD, Option.some.injEq] at hf
        exact hf
    · rename_i k sz b z ht
      have hu := (hT.ok t _ ht).int rfl
      cases fuel with
      | zero => simp [DataW.trod] at h
      | succ m =>
        unfold DataW.trod at h; rw [hu] at h
        split at h <;> simp_all
        obtain ⟨⟨rfl, _⟩, rfl⟩ := h
        simp only [flatD, Option.some.injEq] at hf
        exact hf
    · rename_i sz b z ht
      have hu := (hT.ok t _ ht).str rfl
      cases fuel with
      | zero => simp [DataW.trod] at h
      | succ m =>
        unfold DataW.trod at h; rw [hu] at h
        split at h <;> simp_all
        obtain ⟨_, rfl⟩ := h
        simp [flatD] at hf
    · rename_i e sz b z ht
      have hu := (hT.ok t _ ht).slice rfl
      rcases DataW.trod_slice hu h with ⟨_, hx⟩ | ⟨a, len, cap, elems, rest, m, _, _, hx, _⟩
      · rw [hx] at hf; simp [flatD] at hf
      · rw [hx] at hf; simp [flatD] at hf
    · rename_i fs sz b z ht
      simp only [Bool.and_eq_true] at hcan
      obtain ⟨F, hF, hm⟩ := (hT.ok t _ ht).struct rfl
      obtain ⟨xs, m, _, hx, hcs, hxs, hread⟩ := DataW.trod_struct hF h
      rw [(hT.ok t _ ht).cellsOf] at hcs
      rw [hx] at hf
      simp only [flatD] at hf
      have hall := List.all_eq_true.1 hcan.2
      have hfl : fs.length = F.size := by rw [← hm]; simp
      have := flat_fields hT hcs fs 0 xs vals (fun f hf => trod_flat hT n m f.2 (hall f hf)) hcan.1 (by omega) (fun i f hi => by
        have hlt := (List.getElem?_eq_some_iff.1 hi).1
        have hFi : F[i]? = some (F[i]'(by omega)) := Array.getElem?_eq_getElem (by omega)
        have e : (F.toList.map fun f => (f.offset, f.type))[i]? = fs[i]? := by rw [hm]
        rw [List.getElem?_map, Array.getElem?_toList, hFi, hi] at e
        simp only [Option.map_some, Option.some.injEq] at e
        subst e
        exact hread i _ hFi) hf
      simpa using this
    · rename_i k e sz b z ht
      simp only [Bool.and_eq_true] at hcan
      have hu := (hT.ok t _ ht).arr rfl
      obtain ⟨xs, m, _, hx, hcs, hxs, hread⟩ := DataW.trod_array hu h
      rw [hx] at hf
      simp only [flatD] at hf
      have h2 := hcan.2
      split at h2
      · rename_i te hte
        rw [(hT.ok e _ hte).cellsOf] at hread
        rw [(hT.ok t _ ht).cellsOf] at hcs
        simp only [beq_iff_eq] at h2
        exact flat_rows (sz := te.size) (fun cs x vals => trod_flat hT n m e hcan.1 cs x vals) xs cs vals (by rw [hcs, h2, hxs]) (fun i y hy => by
          have := hread i (by have := (List.getElem?_eq_some_iff.1 hy).1; omega)
          rw [this, hy]) hf
      · cases h2
    · cases hcan
end
def globB (P : Program) (T : Tbl) (laid : List (String × DataW Unit)) : Bool := glob.all fun p => laid.any fun q => ((match P.globalNamed q.1 with
    | some g => Nat.beq g p.1
    | none => false) && (match (P.globals[p.1]?).map (·.type) with
    | some t => canRead T 20 t
    | none => false)) && (match flatD q.2 with
    | some vs => sameScalars p.2 vs
    | none => false)
theorem laidVars_mem {P : Program} {w : World} : ∀ (laid : List (String × DataW Unit)) (ps : List MemPlace), DataW.LaidVars P w laid ps → ∀ q ∈ laid, ∃ g t cs fuel p, P.globalNamed q.1 = some g ∧ (P.globals[g]?).map (·.type) = some t ∧ w.var? P q.1 = some cs ∧ DataW.trod (fun _ => ()) P w 0 (fun _ => true) false fuel t cs.toList = some (q.2, p)
  | [], _, _, q, hq => by simp at hq
  | (n, d) :: r, ps, h, q, hq => by
    obtain ⟨g, t, cs, fuel, p, q', h1, h2, h3, h4, h5, _⟩ := h
    rcases List.mem_cons.1 hq with rfl | hq
    · exact ⟨g, t, cs, fuel, p, h1, h2, h3, h4⟩
    · exact laidVars_mem r q' h5 q hq
theorem lookup_mem : ∀ {l : List (Nat × List Value)} {g : Nat} {xs : List Value}, l.lookup g = some xs → (g, xs) ∈ l
  | [], g, xs, h => by simp at h
  | (k, ys) :: l, g, xs, h => by
    rw [List.lookup_cons] at h
    split at h
    · rename_i hk
      injection h with h
      have : g = k := by simpa using hk
      subst this; subst h; simp
    · exact List.mem_cons_of_mem _ (lookup_mem h)
theorem gok_of_laid {P : Program} {T : Tbl} (hT : TblOk P T) {W : World} {laid : List (String × DataW Unit)} (hB : globB P T laid = true) (h : laidMet P laid W) : GOK (fun k => k < W.heap.size) W := by
  intro g xs hg
  obtain ⟨ps, hv, _⟩ := h
  have hm := lookup_mem hg
  unfold globB at hB
  have h1 := List.all_eq_true.1 hB _ hm
  obtain ⟨q, hq, h2⟩ := List.any_eq_true.1 h1
  simp only [Bool.and_eq_true] at h2
  obtain ⟨⟨h3, h4⟩, h5⟩ := h2
  obtain ⟨g', t, cs, fuel, p, e1, e2, e3, e4⟩ := laidVars_mem laid ps hv q hq
  rw [e1] at h3
  have hgg : g' = g := Nat.eq_of_beq_eq_true h3
  subst hgg
  rw [e2] at h4
  split at h5
  · rename_i vs hvs
    obtain ⟨rfl, hone⟩ := sameScalars_eq h5
    have hcs := trod_flat hT 20 fuel t h4 _ _ _ e4 hvs
    refine ⟨?_, RdAt.mk _ _ _ fun i d hi => ?_⟩
    · have := e3
      simp only [World.var?, e1, Option.bind_some] at this
      split at this
      · rename_i hh
        exact (Array.getElem?_eq_some_iff.1 hh).1
      · cases this
    · unfold gcells at hi
      rw [List.getElem?_map] at hi
      obtain ⟨u, hu, rfl⟩ := Option.map_eq_some_iff.1 hi
      refine ⟨u, ?_, hone u (List.mem_of_getElem? hu), by simp [Rd]⟩
      have hc := World.var?_cell e1 e3 i
      rw [← Array.getElem?_toList, hcs, hu] at hc
      have ea : (⟨g', 0, none⟩ : Addr).add (0 + i) = ⟨g', i, none⟩ := by
        unfold Addr.add
        by_cases h0 : i = 0
        · subst h0; simp
        · simp [h0]
      show W.cell? _ = _
      rw [ea]; exact hc
  · cases h5
theorem gok_nil {S : Nat → Prop} {w : World} (h : glob = []) : GOK S w := fun g xs hg => by rw [h] at hg; simp at hg
theorem targ_arr {T : Tbl} {t e : TypeId} {n a b : Nat} {z : List Value} {d : D} (h : T t = some ⟨.arr n e, a, b, z⟩) (hd : ∃ ti cs, T t = some ti ∧ TC T t cs ∧ d = (if ti.td.isAgg then .agg cs else cs.headD default)) :
    ∃ chunks : List (List D), d = .agg chunks.flatten ∧ chunks.length = n ∧ ∀ c ∈ chunks, TC T e c := by
  obtain ⟨ti, cs, h1, h2, h3⟩ := hd
  rw [h] at h1; injection h1 with h1; subst h1
  obtain ⟨chunks, rfl, hl, hc⟩ := h2.arr_inv h
  exact ⟨chunks, h3, hl, hc⟩
theorem ints_inv {T : Tbl} {e : TypeId} {k : IntKind} {a b : Nat} {z : List Value} (he : T e = some ⟨.int k, a, b, z⟩) : ∀ {chunks : List (List D)}, (∀ c ∈ chunks, TC T e c) → ∃ xs : List Int, chunks.flatten = xs.map (fun x => .v (.int k x)) ∧ xs.length = chunks.length ∧ ∀ x ∈ xs, (Lit.int k x).wf = true
  | [], _ => ⟨[], rfl, rfl, by simp⟩
  | c :: cs, h => by
    obtain ⟨xs, e1, e2, e3⟩ := ints_inv he (chunks := cs) fun c hc => h c (by simp [hc])
    obtain ⟨x, rfl, hw⟩ := (h c (by simp)).int_inv he
    exact ⟨x :: xs, by simp [e1], by simp [e2], by simpa using ⟨hw, e3⟩⟩
end Go.VD
end
section
namespace Go.Proofs.Ytahiigfpikohgaa
open Go.VD
set_option linter.unusedVariables false
set_option linter.unusedSimpArgs false
set_option maxRecDepth 100000
structure Wd where
  t : ByteArray
  q : Bool
instance : Inhabited Wd := ⟨⟨.empty, false⟩⟩
inductive Itm where
  | mk (line : Int) (ws : List Wd) (bl : Bool) (ks : List Itm)
instance : Inhabited Itm := ⟨.mk 0 [] false []⟩
def Itm.line : Itm → Int | .mk l _ _ _ => l
def Itm.ws : Itm → List Wd | .mk _ w _ _ => w
def Itm.bl : Itm → Bool | .mk _ _ b _ => b
def Itm.ks : Itm → List Itm | .mk _ _ _ k => k
def wordsD : List Wd → List D
  | [] => []
  | w :: r => .v (.string w.t) :: .v (.bool w.q) :: wordsD r
mutual
def itemD : Itm → List D
  | .mk l ws b ks => [.v (.int .i64 l), .ro ws.length (wordsD ws), .v (.bool b), .ro ks.length (itemsD ks)]
def itemsD : List Itm → List D
  | [] => []
  | x :: r => itemD x ++ itemsD r
end
theorem itemD_eq (x : Itm) : itemD x = [.v (.int .i64 x.line), .ro x.ws.length (wordsD x.ws), .v (.bool x.bl), .ro x.ks.length (itemsD x.ks)] := by
  cases x; simp only [itemD, Itm.line, Itm.ws, Itm.bl, Itm.ks]
theorem wordsD_length : ∀ l : List Wd, (wordsD l).length = 2 * l.length
  | [] => rfl
  | w :: r => by simp only [wordsD, List.length_cons, wordsD_length r]; omega
theorem itemsD_length : ∀ l : List Itm, (itemsD l).length = 4 * l.length
  | [] => by simp [itemsD]
  | x :: r => by simp only [itemsD, itemD_eq, List.length_append, List.length_cons, List.length_nil, itemsD_length r]; omega
theorem wordsD_get : ∀ (l : List Wd) (i : Nat), i < l.length → (wordsD l).getD (i * 2) default = .v (.string (l.getD i default).t) ∧ (wordsD l).getD (i * 2 + 1) default = .v (.bool (l.getD i default).q)
  | [], i, h => by simp at h
  | w :: r, 0, h => by simp [wordsD]
  | w :: r, i + 1, h => by
    have := wordsD_get r i (by simpa using h)
    rw [show (i + 1) * 2 = i * 2 + 1 + 1 by omega, show i * 2 + 1 + 1 + 1 = i * 2 + 1 + 1 + 1 from rfl]
    simp only [wordsD, List.getD_cons_succ]
    exact this
theorem itemsD_get : ∀ (l : List Itm) (i : Nat), i < l.length → (itemsD l).getD (i * 4) default = .v (.int .i64 (l.getD i default).line) ∧
    (itemsD l).getD (i * 4 + 1) default = .ro (l.getD i default).ws.length (wordsD (l.getD i default).ws) ∧ (itemsD l).getD (i * 4 + 2) default = .v (.bool (l.getD i default).bl) ∧
    (itemsD l).getD (i * 4 + 3) default = .ro (l.getD i default).ks.length (itemsD (l.getD i default).ks)
  | [], i, h => by simp at h
  | x :: r, 0, h => by simp [itemsD, itemD_eq]
  | x :: r, i + 1, h => by
    have := itemsD_get r i (by simpa using h)
    rw [show (i + 1) * 4 = i * 4 + 1 + 1 + 1 + 1 by omega]
    simp only [itemsD, itemD_eq, List.cons_append, List.nil_append, List.getD_cons_succ]
    exact this
def unW : List D → List Wd
  | .v (.string t) :: .v (.bool q) :: r => ⟨t, q⟩ :: unW r
  | _ => []
theorem unW_wordsD : ∀ l : List Wd, unW (wordsD l) = l
  | [] => rfl
  | w :: r => by simp only [wordsD, unW, unW_wordsD r]
def unI : List D → List Itm
  | .v (.int _ n) :: .ro _ ws :: .v (.bool b) :: .ro _ ks :: r => .mk n (unW ws) b (unI ks) :: unI r
  | _ => []
termination_by l => SizeOf.sizeOf l
decreasing_by all_goals (simp; try omega)
mutual
theorem unI_item : ∀ (x : Itm) (r : List D), unI (itemD x ++ r) = x :: unI r
  | .mk l ws b ks, r => by
    simp only [itemD, List.cons_append, List.nil_append]
    rw [unI, unW_wordsD, unI_itemsD ks]
theorem unI_itemsD : ∀ l : List Itm, unI (itemsD l) = l
  | [] => by simp [itemsD, unI]
  | x :: r => by rw [itemsD, unI_item x (itemsD r), unI_itemsD r]
end
mutual
def hI : Itm → Nat
  | .mk _ _ _ ks => hL ks + 1
def hL : List Itm → Nat
  | [] => 0
  | x :: r => max (hI x) (hL r)
end
theorem hL_get : ∀ (l : List Itm) (i : Nat), i < l.length → hL (l.getD i default).ks < hL l
  | [], i, h => by simp at h
  | .mk a b c ks :: r, 0, h => by simp only [List.getD_cons_zero, Itm.ks, hL, hI]; omega
  | x :: r, i + 1, h => by
    have := hL_get r i (by simpa using h)
    simp only [List.getD_cons_succ, hL]; omega
mutual
def okI : Itm → Prop
  | .mk l ws _ ks => (ws.length ≤ maxLen ∧ ks.length ≤ maxLen) ∧ (∀ w ∈ ws, w.t.size ≤ maxLen) ∧ okL ks
def okL : List Itm → Prop
  | [] => True
  | x :: r => okI x ∧ okL r
end
theorem okL_get : ∀ (l : List Itm) (i : Nat), okL l → i < l.length → okI (l.getD i default)
  | [], i, _, h => by simp at h
  | x :: r, 0, ho, h => by simp only [okL] at ho; simpa using ho.1
  | x :: r, i + 1, ho, h => by
    simp only [okL] at ho
    simpa using okL_get r i ho.2 (by simpa using h)
theorem okI_parts {x : Itm} (h : okI x) : x.ws.length ≤ maxLen ∧ x.ks.length ≤ maxLen ∧ (∀ w ∈ x.ws, w.t.size ≤ maxLen) ∧ okL x.ks := by
  cases x; simp only [okI, Itm.ws, Itm.ks] at *; exact ⟨h.1.1, h.1.2, h.2.1, h.2.2⟩
theorem okW_get {ws : List Wd} (h : ∀ w ∈ ws, w.t.size ≤ maxLen) {i : Nat} (hi : i < ws.length) : (ws.getD i default).t.size ≤ maxLen := by
  rw [List.getD_eq_getElem?_getD, List.getElem?_eq_getElem hi]
  exact h _ (List.getElem_mem hi)
mutual
theorem itemD_nl : ∀ x : Itm, NamelessL (itemD x)
  | .mk l ws b ks => by
    simp only [itemD, NamelessL, Nameless, and_true, true_and]
    exact ⟨wordsD_nl ws, itemsD_nl ks⟩
theorem wordsD_nl : ∀ l : List Wd, NamelessL (wordsD l)
  | [] => by simp [wordsD, NamelessL]
  | w :: r => by simp only [wordsD, NamelessL, Nameless, true_and]; exact wordsD_nl r
theorem itemsD_nl : ∀ l : List Itm, NamelessL (itemsD l)
  | [] => by simp [itemsD, NamelessL]
  | x :: r => by rw [itemsD]; exact (itemD_nl x).append (itemsD_nl r)
end
theorem words_inv {cs : List D} (h : TC T 34 cs) : ∃ ws : List Wd, cs = [.ro ws.length (wordsD ws)] ∧ ws.length ≤ maxLen ∧ ∀ w ∈ ws, w.t.size ≤ maxLen := by
  obtain ⟨chunks, rfl, hl, hc⟩ := h.slice_inv T_34
  have : ∀ chunks : List (List D), (∀ c ∈ chunks, TC T 51 c) → ∃ ws : List Wd, chunks.length = ws.length ∧ chunks.flatten = wordsD ws ∧ ∀ w ∈ ws, w.t.size ≤ maxLen := by
    intro chunks
    induction chunks with
    | nil => intro _; exact ⟨[], rfl, rfl, by simp⟩
    | cons c r ih =>
      intro hc
      obtain ⟨ws, h1, h2, h3⟩ := ih fun c h => hc c (by simp [h])
      obtain ⟨p, r1, rfl, g1, p2, r2, rfl, g2, rfl⟩ := (hc c (by simp)).fields T_51
      obtain ⟨s, rfl, hs⟩ := g1.str_inv T_9
      obtain ⟨q, rfl⟩ := g2.bool_inv T_4
      refine ⟨⟨s, q⟩ :: ws, by simp [h1], by simp [wordsD, h2], fun w hw => ?_⟩
      rcases List.mem_cons.1 hw with rfl | hw
      · exact hs
      · exact h3 w hw
  obtain ⟨ws, h1, h2, h3⟩ := this chunks hc
  exact ⟨ws, by rw [h1, h2], by rw [← h1]; exact hl, h3⟩
theorem items_inv : ∀ (n : Nat) {cs : List D}, SizeOf.sizeOf cs ≤ n → TC T 22 cs → ∃ l : List Itm, cs = [.ro l.length (itemsD l)] ∧ l.length ≤ maxLen ∧ okL l := by
  intro n
  induction n with
  | zero => intro cs hn; cases cs <;> simp at hn
  | succ n ih =>
    intro cs hn h
    obtain ⟨chunks, rfl, hl, hc⟩ := h.slice_inv T_22
    have hsz : SizeOf.sizeOf chunks.flatten ≤ n := by simp at hn; omega
    have : ∀ chunks : List (List D), SizeOf.sizeOf chunks.flatten ≤ n → (∀ c ∈ chunks, TC T 36 c) → ∃ l : List Itm, chunks.length = l.length ∧ chunks.flatten = itemsD l ∧ okL l := by
      intro chunks
      induction chunks with
      | nil => intro _ _; exact ⟨[], rfl, by simp [itemsD], by simp [okL]⟩
      | cons c r ihr =>
        intro hs hc
        obtain ⟨p1, r1, rfl, g1, p2, r2, rfl, g2, p3, r3, rfl, g3, p4, r4, rfl, g4, rfl⟩ := (hc c (by simp)).fields T_36
        obtain ⟨k, rfl, _⟩ := g1.int_inv T_3
        obtain ⟨ws, rfl, hw1, hw2⟩ := words_inv g2
        obtain ⟨b, rfl⟩ := g3.bool_inv T_4
        obtain ⟨ch4, rfl, hl4, hc4⟩ := g4.slice_inv T_22
        simp only [List.flatten_cons, List.cons_append, List.nil_append, List.cons.sizeOf_spec, List.append_nil] at hs
        obtain ⟨l, h1, h2, h3⟩ := ihr (by omega) fun c h => hc c (by simp [h])
        obtain ⟨ks, hk, hk1, hk2⟩ := ih (cs := [.ro ch4.length ch4.flatten]) (by simp; simp at hs; omega) (.slice T_22 ch4 hl4 hc4)
        simp only [List.cons.injEq, D.ro.injEq, and_true] at hk
        refine ⟨.mk k ws b ks :: l, by simp [h1], ?_, ?_⟩
        · simp only [List.flatten_cons, List.cons_append, List.nil_append, itemsD, itemD, h2, hk.1, hk.2]
        · simp only [okL, okI]; exact ⟨⟨⟨hw1, hk1⟩, hw2, hk2⟩, h3⟩
    obtain ⟨l, h1, h2, h3⟩ := this chunks hsz hc
    exact ⟨l, by rw [h1, h2], by rw [← h1]; exact hl, h3⟩
theorem targ_items {d : D} (hd : ∃ ti cs, T 22 = some ti ∧ TC T 22 cs ∧ d = (if ti.td.isAgg then .agg cs else cs.headD default)) : ∃ l : List Itm, d = .ro l.length (itemsD l) ∧ l.length ≤ maxLen ∧ okL l := by
  obtain ⟨ti, cs, h1, h2, h3⟩ := hd
  rw [T_22] at h1; injection h1 with h1; subst h1
  obtain ⟨l, rfl, h4, h5⟩ := items_inv _ (Nat.le_refl _) h2
  exact ⟨l, h3, h4, h5⟩
theorem any_no {α : Type} [Inhabited α] {f : α → Bool} : ∀ {l : List α}, (∀ j, j < l.length → f (l.getD j default) = false) → l.any f = false
  | [], _ => rfl
  | x :: r, h => by
    rw [List.any_cons, show f x = false from by simpa using h 0 (by simp), any_no (l := r) fun j hj => by simpa using h (j + 1) (by simpa using hj)]; rfl
theorem any_yes {α : Type} [Inhabited α] {f : α → Bool} : ∀ {l : List α} (j : Nat), j < l.length → f (l.getD j default) = true → l.any f = true
  | [], j, h, _ => by simp at h
  | x :: r, 0, _, h => by rw [List.any_cons, show f x = true from by simpa using h]; rfl
  | x :: r, j + 1, hj, h => by rw [List.any_cons, any_yes (l := r) j (by simpa using hj) (by simpa using h), Bool.or_true]
theorem getD_take {α : Type} [Inhabited α] (l : List α) {i : Nat} (h : i < l.length) : l.take (i + 1) = l.take i ++ [l.getD i default] := by
  rw [List.take_add_one, List.getElem?_eq_getElem h, List.getD_eq_getElem?_getD, List.getElem?_eq_getElem h]; rfl
end Go.Proofs.Ytahiigfpikohgaa
end
section
namespace Go.Proofs.Ytahiigfpikohgaa
open Go.VD
set_option linter.unusedVariables false
set_option linter.unusedSimpArgs false
set_option maxRecDepth 100000
mutual
def deepI : Itm → Int → Bool
  | .mk _ _ _ ks, n => decide (n < 0) || deepL ks (n - 1)
def deepL : List Itm → Int → Bool
  | [], _ => false
  | x :: r, n => deepI x n || deepL r n
end
theorem deepI_eq (x : Itm) (n : Int) : deepI x n = (decide (n < 0) || deepL x.ks (n - 1)) := by cases x; simp only [deepI, Itm.ks]
theorem deepL_any (n : Int) : ∀ l : List Itm, deepL l n = l.any fun x => deepI x n
  | [] => by simp [deepL]
  | x :: r => by rw [deepL, List.any_cons, deepL_any n r]
def DeepIH (h : Nat) : Prop := ∀ (l : List Itm) (n : Int), hL l < h → okL l → l.length ≤ maxLen → -1 ≤ n → n ≤ 100 → PureJ Try.prog 7 [.ro l.length (itemsD l), .v (.int .i64 n)] (.v (.bool (deepL l n)))
def ent_deepR (h : Nat) : Ent := fun ds => match ds with
  | [.ro k ys, .v (.int .i64 n)] => some (.v (.bool (deepL (unI ys) n)), (ys = itemsD (unI ys) ∧ k = (unI ys).length) ∧ hL (unI ys) < h ∧ okL (unI ys) ∧ (unI ys).length ≤ maxLen ∧ -1 ≤ n ∧ n ≤ 100)
  | _ => none
theorem ent_deepR_ok (h : Nat) (ih : DeepIH h) : EntOk Try.prog 7 (ent_deepR h) := by
  intro ds d c hd hc; unfold ent_deepR at hd; split at hd
  · rename_i k ys n
    obtain ⟨rfl, rfl⟩ := pair_inj hd
    obtain ⟨⟨h1, h2⟩, h3, h4, h5, h6, h7⟩ := hc
    generalize unI ys = l at *
    subst h1; subst h2
    exact ih l n h3 h4 h5 h6 h7
  · cases hd
def lp_deepLoop (l : List Itm) (n : Int) (h : Nat) : LoopO := loopRule2 (α := Nat) (β := Unit) (γ := Unit) [] (fun i => i ≤ l.length ∧ ∀ j, j < i → deepI (l.getD j default) n = false) (fun i => [(0, .ro l.length (itemsD l)), (1, .v (.int .i64 n)), (5, .v (.int .i64 (i : Int)))]) (fun _ => []) (0) (fun _ => deepL l n = false) (fun _ => (.exit 0, [(0, .ro l.length (itemsD l))], [])) (fun _ => deepL l n = true) (fun _ => (.ret, [(4, .v (.bool true))], []))
theorem deepLoop_rule (l : List Itm) (n : Int) (h : Nat) (hpre : DeepIH h ∧ hL l ≤ h ∧ okL l ∧ l.length ≤ maxLen ∧ -1 ≤ n ∧ n ≤ 100) : LRuleP Try.prog Try.f7.ntmps (loopAt ((Try.f7.body).getD .skip) 2) (lp_deepLoop l n h) := by
  refine lrule_of2 (α := Nat) (β := Unit) (γ := Unit) (call := (addPure 7 (ent_deepR h) noCalls)) (lp := fun _ => none) (N := 10) T_ok mixed (addPure_ok (ent_deepR_ok h hpre.1) noCalls_ok) (fun i => l.length - i) (by kernel_rfl) (LpAllP.none _) ?_
  intro x hJ
  refine of_eq (B := letI z9 := ((x : Nat) : Int); letI z15 := (((Int.toNat z9) * (4 : Nat)) + (3 : Nat)); letI z0 := (List.getD (itemsD l) z15 (Inhabited.default)); letI z6 := (Exit.exit (0 : Nat)); letI z11 := List.length l; letI z3 := (Prod.mk (0 : Nat) (D.ro z11 (itemsD l))); letI z4 := ([] : List (Option Blk)); letI z1 := (Prod.mk z6 (Prod.mk [z3] z4)); letI z7 := (Prod.mk (4 : Nat) (D.v (Value.bool Bool.true))); letI z2 := (Prod.mk Exit.ret (Prod.mk [z7] z4)); letI z5 := (List (Option Nat)); letI z8 := (IntKind.wrap IntKind.i64 (n - (1 : Int))); letI z10 := (unI (cellL z0)); letI z12 := (Prod.mk (1 : Nat) (D.v (Value.int IntKind.i64 n))); letI z13 := ((deepL l n) = Bool.false); letI z14 := ((deepL l n) = Bool.true); letI z16 := Exit.ret = Exit.ret; letI z17 := ((z11 : Nat) : Int); (True ∧ (True ∧ (True ∧ (True ∧ (pcond (Decidable.decide (z9 < z17)) (True ∧ (True ∧ (True ∧ (pcond (Decidable.decide (n < (0 : Int))) (True ∧ (True ∧ ((∃ (r : Unit), (∃ (kp : z5), (z13 ∧ ((Exit.ret = z6) ∧ (viewAll kp [z3] z4 (Prod.fst (Prod.snd ((fun (x_1 : Unit) => z1) r))) (Prod.snd (Prod.snd ((fun (x_1 : Unit) => z1) r)))))))) ∨ (∃ (r : Unit), (∃ (kp : z5), (z14 ∧ (z16 ∧ (viewAll kp [z7] z4 (Prod.fst (Prod.snd ((fun (x_1 : Unit) => z2) r))) (Prod.snd (Prod.snd ((fun (x_1 : Unit) => z2) r))))))))))) (True ∧ (True ∧ ((((0 : Int) ≤ z9) ∧ (z9 < z17)) ∧ (True ∧ (((z15 < (List.length (itemsD l))) ∧ (IsSl z0)) ∧ (True ∧ (True ∧ (((((cellL z0) = (itemsD z10)) ∧ ((cellN z0) = (List.length z10))) ∧ (((hL z10) < h) ∧ ((okL z10) ∧ (((List.length z10) ≤ (9223372036854775807 : Nat)) ∧ (((-(1 : Int)) ≤ z8) ∧ (z8 ≤ (100 : Int))))))) ∧ (True ∧ (pcond (deepL z10 z8) (True ∧ ((∃ (r : Unit), (∃ (kp : z5), (z13 ∧ ((Exit.ret = z6) ∧ (viewAll kp [z3] z4 (Prod.fst (Prod.snd ((fun (x_1 : Unit) => z1) r))) (Prod.snd (Prod.snd ((fun (x_1 : Unit) => z1) r)))))))) ∨ (∃ (r : Unit), (∃ (kp : z5), (z14 ∧ (z16 ∧ (viewAll kp [z7] z4 (Prod.fst (Prod.snd ((fun (x_1 : Unit) => z2) r))) (Prod.snd (Prod.snd ((fun (x_1 : Unit) => z2) r)))))))))) (True ∧ (True ∧ (True ∧ (∃ (y : Nat), (∃ (kp : z5), (((z11 - y) < (z11 - x)) ∧ (((y ≤ z11) ∧ (∀ (j : Nat), ((j < y) → ((deepI (List.getD l j (Inhabited.default)) n) = Bool.false)))) ∧ (viewAll kp [z3, z12, (Prod.mk (5 : Nat) (D.v (Value.int IntKind.i64 (IntKind.wrap IntKind.i64 (z9 + (1 : Int))))))] z4 [z3, z12, (Prod.mk (5 : Nat) (D.v (Value.int IntKind.i64 ((y : Nat) : Int))))] z4)))))))))))))))))))))) ((∃ (r : Unit), (∃ (kp : z5), (z13 ∧ ((z6 = z6) ∧ (viewAll kp [z3] z4 (Prod.fst (Prod.snd ((fun (x_1 : Unit) => z1) r))) (Prod.snd (Prod.snd ((fun (x_1 : Unit) => z1) r)))))))) ∨ (∃ (r : Unit), (∃ (kp : z5), (z14 ∧ ((z6 = Exit.ret) ∧ (viewAll kp ([] : List (Prod Nat D)) z4 (Prod.fst (Prod.snd ((fun (x_1 : Unit) => z2) r))) (Prod.snd (Prod.snd ((fun (x_1 : Unit) => z2) r))))))))))))))) (by kernel_rfl) ?_
  simp only [true_and, and_true, and_self, IsInt_lit, IsBool_lit, IsStr_lit, IsSl_lit, cellN_lit, cellL_lit, Bool.not_eq_true', Bool.not_eq_false', Bool.not_true, Bool.not_false, Int.reduceLE, Int.reduceLT, Int.reduceNeg, Nat.le_refl, Int.le_refl, Nat.reduceLT, Nat.reduceLeDiff, Nat.reduceEqDiff, D.v.injEq, D.tup.injEq, D.agg.injEq, D.ro.injEq, List.cons.injEq, Value.int.injEq, Value.bool.injEq, pcond_true, pcond_false, NamelessL, Nameless, Nat.reduceMul, Nat.reduceAdd, Nat.zero_add, Int.toNat_natCast] at *
  obtain ⟨ih, hh, ho, hlm, hn1, hn2⟩ := hpre
  obtain ⟨hx, hall⟩ := hJ
  simp only [maxLen] at hlm
  refine pcond_intro (fun h1 => ?_) (fun h1 => ?_)
  · simp only [decide_eq_true_eq] at h1
    have hxl : x < l.length := by omega
    obtain ⟨g0, g1, g2, g3⟩ := itemsD_get l x hxl
    have hlen := itemsD_length l
    obtain ⟨o1, o2, o3, o4⟩ := okI_parts (okL_get l x ho hxl)
    have hlt := hL_get l x hxl
    have hw : IntKind.i64.wrap (n - 1) = n - 1 := wrap_i64_of (by omega) (by omega)
    have hi : IntKind.i64.wrap ((x : Int) + 1) = ((x + 1 : Nat) : Int) := by rw [wrap_i64_of (by omega) (by omega)]; omega
    have yes : deepI (l.getD x default) n = true → deepL l n = true := fun e => by rw [deepL_any]; exact any_yes x hxl e
    refine pcond_intro (fun h2 => .inr ⟨(), [], yes (by rw [deepI_eq, h2]; rfl), ?_⟩) (fun h2 => ?_)
    · refine of_eq (B := letI z0 := (D.v (Value.bool Bool.true)); letI z1 := ([] : List (Option Blk)); ((Bool.true = Bool.true) ∧ ((z1 = z1) ∧ ((True ∧ (z0 = z0)) ∧ True)))) (by kernel_rfl) ?_; simp
    · simp only [decide_eq_false_iff_not] at h2
      simp only [g3, cellN_lit, cellL_lit, IsSl_lit, unI_itemsD, hw, hi]
      refine ⟨by omega, ⟨by omega, trivial⟩, ⟨⟨trivial, trivial⟩, by omega, o4, by simpa [maxLen] using o2, by omega, by omega⟩, pcond_intro (fun h3 => .inr ⟨(), [], yes (by rw [deepI_eq, h3, Bool.or_true]), ?_⟩) (fun h3 => ⟨x + 1, [], by omega, ⟨by omega, fun j hj => ?_⟩, ?_⟩)⟩
      · refine of_eq (B := letI z0 := (D.v (Value.bool Bool.true)); letI z1 := ([] : List (Option Blk)); ((Bool.true = Bool.true) ∧ ((z1 = z1) ∧ ((True ∧ (z0 = z0)) ∧ True)))) (by kernel_rfl) ?_; simp
      · rcases Nat.lt_succ_iff_lt_or_eq.1 hj with h | rfl
        · exact hall j h
        · rw [deepI_eq, h3, decide_eq_false (show ¬ n < 0 by omega)]; rfl
      · refine of_eq (B := letI z0 := (D.v (Value.int IntKind.i64 (((x + (1 : Nat)) : Nat) : Int))); letI z1 := (D.ro (List.length l) (itemsD l)); letI z2 := (D.v (Value.int IntKind.i64 n)); letI z3 := ([] : List (Option Blk)); ((Bool.true = Bool.true) ∧ ((z3 = z3) ∧ ((True ∧ (z1 = z1)) ∧ ((True ∧ (z2 = z2)) ∧ ((True ∧ (z0 = z0)) ∧ True)))))) (by kernel_rfl) ?_; simp
  · simp only [decide_eq_false_iff_not] at h1
    refine .inl ⟨(), [], ?_, ?_⟩
    · rw [deepL_any]; exact any_no fun j hj => hall j (by omega)
    · refine of_eq (B := letI z0 := (D.ro (List.length l) (itemsD l)); letI z1 := ([] : List (Option Blk)); ((Bool.true = Bool.true) ∧ ((z1 = z1) ∧ ((True ∧ (z0 = z0)) ∧ True)))) (by kernel_rfl) ?_; simp
theorem deep_pure (l : List Itm) (n : Int) (h : Nat) (hpre : DeepIH h ∧ hL l ≤ h ∧ okL l ∧ l.length ≤ maxLen ∧ -1 ≤ n ∧ n ≤ 100) : PureJ Try.prog 7 [.ro l.length (itemsD l), .v (.int .i64 n)] (.v (.bool (deepL l n))) := by
  refine pureJ_of_vcp (call := noCalls) (lp := fun k => bif Nat.beq k 2 then some (lp_deepLoop l n h) else none) (N := 10) T_ok mixed noCalls_ok Try.func7 rfl (by decide) (by kernel_rfl) (by kernel_rfl) (of_eq (B := LRuleP Try.prog Try.f7.ntmps (loopAt ((Try.f7.body).getD .skip) 2) (lp_deepLoop l n h) ∧ True) (by kernel_rfl) ⟨deepLoop_rule l n h hpre, trivial⟩) (by first | exact ⟨itemsD_nl l, trivial, trivial⟩ | trivial | simp [NamelessL, Nameless]) (by first | exact ⟨itemsD_nl l, trivial, trivial⟩ | trivial | simp [NamelessL, Nameless]) ?_
  refine of_eq (B := letI z0 := (D.v (Value.int IntKind.i64 (0 : Int))); letI z1 := (D.ro (List.length l) (itemsD l)); letI z2 := (D.v (Value.int IntKind.i64 n)); letI z3 := (D.v (Value.bool (deepL l n))); letI z4 := ([] : List (Option Blk)); (True ∧ (True ∧ ((((0 : Nat) ≤ (List.length l)) ∧ (∀ (j : Nat), ((j < (0 : Nat)) → ((deepI (List.getD l j (Inhabited.default)) n) = Bool.false)))) ∧ (((Bool.true = Bool.true) ∧ ((z4 = z4) ∧ ((True ∧ (z1 = z1)) ∧ ((True ∧ (z2 = z2)) ∧ ((True ∧ (z0 = z0)) ∧ True))))) ∧ ((Unit → (((deepL l n) = Bool.false) → (True ∧ (True ∧ (True ∧ ((D.v (Value.bool Bool.false)) = z3)))))) ∧ (Unit → (((deepL l n) = Bool.true) → (True ∧ (True ∧ ((D.v (Value.bool Bool.true)) = z3))))))))))) (by kernel_rfl) ?_
  simp only [true_and, and_true, and_self, IsInt_lit, IsBool_lit, IsStr_lit, IsSl_lit, cellN_lit, cellL_lit, Bool.not_eq_true', Bool.not_eq_false', Bool.not_true, Bool.not_false, Int.reduceLE, Int.reduceLT, Int.reduceNeg, Nat.le_refl, Int.le_refl, Nat.reduceLT, Nat.reduceLeDiff, Nat.reduceEqDiff, D.v.injEq, D.tup.injEq, D.agg.injEq, D.ro.injEq, List.cons.injEq, Value.int.injEq, Value.bool.injEq, pcond_true, pcond_false, NamelessL, Nameless, Nat.reduceMul, Nat.reduceAdd, Nat.zero_add, Int.toNat_natCast]
  refine ⟨⟨Nat.zero_le _, fun j hj => absurd hj (Nat.not_lt_zero _)⟩, fun _ h => h.symm, fun _ h => h.symm⟩
theorem deep_all : ∀ h, DeepIH h := by
  intro h
  induction h with
  | zero => intro l n hl; omega
  | succ h ih => intro l n h1 h2 h3 h4 h5; exact deep_pure l n h ⟨ih, by omega, h2, h3, h4, h5⟩
theorem ent_deep_ok (h : Nat) : EntOk Try.prog 7 (ent_deepR h) := ent_deepR_ok h (deep_all h)
end Go.Proofs.Ytahiigfpikohgaa
end
section
namespace Go.Proofs.Ytahiigfpikohgaa
open Go.VD
set_option linter.unusedVariables false
set_option linter.unusedSimpArgs false
set_option maxRecDepth 100000
mutual
def cntI : Itm → Int
  | .mk _ _ _ ks => cntA ks ks.length
def cntA : List Itm → Int → Int
  | [], n => n
  | x :: r, n => cntA r (IntKind.i64.wrap (n + cntI x))
end
def cntL (l : List Itm) : Int := cntA l l.length
theorem cntI_eq (x : Itm) : cntI x = cntL x.ks := by cases x; simp only [cntI, cntL, Itm.ks]
theorem cntA_app : ∀ (l : List Itm) (x : Itm) (n : Int), cntA (l ++ [x]) n = IntKind.i64.wrap (cntA l n + cntI x)
  | [], x, n => by simp [cntA]
  | y :: r, x, n => by rw [List.cons_append, cntA, cntA, cntA_app r x]
def cntP (l : List Itm) (i : Nat) : Int := cntA (l.take i) l.length
theorem cntP_succ (l : List Itm) {i : Nat} (h : i < l.length) : cntP l (i + 1) = IntKind.i64.wrap (cntP l i + cntL (l.getD i default).ks) := by
  unfold cntP; rw [getD_take l h, cntA_app, cntI_eq]
theorem cntP_all (l : List Itm) : cntP l l.length = cntL l := by unfold cntP cntL; rw [List.take_length]
theorem cntP_zero (l : List Itm) : cntP l 0 = (l.length : Int) := by simp [cntP, cntA]
def CntIH (f : FuncId) (h : Nat) : Prop := ∀ l : List Itm, hL l < h → okL l → l.length ≤ maxLen → PureJ Try.prog f [.ro l.length (itemsD l)] (.v (.int .i64 (cntL l)))
def ent_cntR (h : Nat) : Ent := fun ds => match ds with
  | [.ro k ys] => some (.v (.int .i64 (cntL (unI ys))), (ys = itemsD (unI ys) ∧ k = (unI ys).length) ∧ hL (unI ys) < h ∧ okL (unI ys) ∧ (unI ys).length ≤ maxLen)
  | _ => none
theorem ent_cntR_ok0 (f : FuncId) (h : Nat) (ih : CntIH f h) : EntOk Try.prog f (ent_cntR h) := by
  intro ds d c hd hc; unfold ent_cntR at hd; split at hd
  · rename_i k ys
    obtain ⟨rfl, rfl⟩ := pair_inj hd
    obtain ⟨⟨h1, h2⟩, h3, h4, h5⟩ := hc
    generalize unI ys = l at *
    subst h1; subst h2
    exact ih l h3 h4 h5
  · cases hd
theorem ent_cntR_ok (h : Nat) (ih : CntIH 12 h) : EntOk Try.prog 12 (ent_cntR h) := ent_cntR_ok0 _ h ih
def lp_cntLoop (l : List Itm) (h : Nat) : LoopO := loopRule (α := Nat) (β := Unit) [] (fun i => i ≤ l.length) (fun i => [(8, .ro l.length (itemsD l)), (9, .v (.int .i64 (l.length : Int))), (3, .v (.int .i64 (cntP l i))), (10, .v (.int .i64 (i : Int)))]) (fun _ => []) (0) (fun _ => True) (fun _ => (.exit 0, [(3, .v (.int .i64 (cntL l)))], []))
theorem cntLoop_rule (l : List Itm) (h : Nat) (hpre : CntIH 12 h ∧ hL l ≤ h ∧ okL l ∧ l.length ≤ maxLen) : LRuleP Try.prog Try.f12.ntmps (loopAt ((Try.f12.body).getD .skip) 3) (lp_cntLoop l h) := by
  refine lrule_of (α := Nat) (β := Unit) (call := (addPure 12 (ent_cntR h) noCalls)) (lp := fun _ => none) (N := 10) T_ok mixed (addPure_ok (ent_cntR_ok h hpre.1) noCalls_ok) (fun i => l.length - i) (by kernel_rfl) (LpAllP.none _) ?_
  intro x hJ
  refine of_eq (B := letI z8 := ((x : Nat) : Int); letI z1 := ((Int.toNat z8) * (4 : Nat)); letI z14 := ((z1 + (1 : Nat)) + (1 : Nat)); letI z0 := (List.getD (itemsD l) (z14 + (1 : Nat)) (Inhabited.default)); letI z12 := (Exit.exit (0 : Nat)); letI z10 := ([] : List (Option Blk)); letI z2 := (Prod.mk z12 (Prod.mk [(Prod.mk (3 : Nat) (D.v (Value.int IntKind.i64 (cntL l))))] z10)); letI z3 := (List.getD (itemsD l) (z1 + (1 : Nat)) (Inhabited.default)); letI z4 := List.length l; letI z5 := (List.getD (itemsD l) z14 (Inhabited.default)); letI z6 := (unI (cellL z0)); letI z13 := ((z4 : Nat) : Int); letI z7 := (Prod.mk (9 : Nat) (D.v (Value.int IntKind.i64 z13))); letI z9 := (List.getD (itemsD l) z1 (Inhabited.default)); letI z11 := (Prod.mk (8 : Nat) (D.ro z4 (itemsD l))); letI z15 := (List (Option Nat)); (True ∧ (pcond (Decidable.decide (z8 < z13)) ((((0 : Int) ≤ z8) ∧ (z8 < z13)) ∧ ((((z1 + (4 : Nat)) ≤ (List.length (itemsD l))) ∧ ((IsInt IntKind.i64 z9) ∧ ((IsSl z3) ∧ ((IsBool z5) ∧ ((IsSl z0) ∧ True))))) ∧ (True ∧ ((((4 : Nat) = (4 : Nat)) ∧ ((4 : Nat) ≤ (4 : Nat))) ∧ (True ∧ (True ∧ (((3 : Nat) < (4 : Nat)) ∧ (((((cellL z0) = (itemsD z6)) ∧ ((cellN z0) = (List.length z6))) ∧ (((hL z6) < h) ∧ ((okL z6) ∧ ((List.length z6) ≤ (9223372036854775807 : Nat))))) ∧ (True ∧ (True ∧ (True ∧ (True ∧ (∃ (y : Nat), (∃ (kp : z15), (((z4 - y) < (z4 - x)) ∧ ((y ≤ z4) ∧ (viewAll kp [z11, z7, (Prod.mk (3 : Nat) (D.v (Value.int IntKind.i64 (IntKind.wrap IntKind.i64 ((cntP l x) + (cntL z6)))))), (Prod.mk (10 : Nat) (D.v (Value.int IntKind.i64 (IntKind.wrap IntKind.i64 (z8 + (1 : Int))))))] [(Option.some (Blk.mk (36 : Nat) [(D.v (Value.int IntKind.i64 (cellInt z9))), (D.ro (cellN z3) (cellL z3)), (D.v (Value.bool (cellBool z5))), (D.ro (cellN z0) (cellL z0))] Bool.true))] [z11, z7, (Prod.mk (3 : Nat) (D.v (Value.int IntKind.i64 (cntP l y)))), (Prod.mk (10 : Nat) (D.v (Value.int IntKind.i64 ((y : Nat) : Int))))] z10))))))))))))))))) (∃ (r : Unit), (∃ (kp : z15), (True ∧ ((z12 = z12) ∧ (viewAll kp [(Prod.mk (3 : Nat) (D.v (Value.int IntKind.i64 (cntP l x))))] z10 (Prod.fst (Prod.snd ((fun (x_1 : Unit) => z2) r))) (Prod.snd (Prod.snd ((fun (x_1 : Unit) => z2) r))))))))))) (by kernel_rfl) ?_
  simp only [true_and, and_true, and_self, IsInt_lit, IsBool_lit, IsStr_lit, IsSl_lit, cellN_lit, cellL_lit, Bool.not_eq_true', Bool.not_eq_false', Bool.not_true, Bool.not_false, Int.reduceLE, Int.reduceLT, Int.reduceNeg, Nat.le_refl, Int.le_refl, Nat.reduceLT, Nat.reduceLeDiff, Nat.reduceEqDiff, D.v.injEq, D.tup.injEq, D.agg.injEq, D.ro.injEq, List.cons.injEq, Value.int.injEq, Value.bool.injEq, pcond_true, pcond_false, NamelessL, Nameless, Nat.reduceMul, Nat.reduceAdd, Nat.zero_add, Int.toNat_natCast] at *
  obtain ⟨ih, hh, ho, hlm⟩ := hpre
  simp only [maxLen] at hlm
  refine pcond_intro (fun h1 => ?_) (fun h1 => ?_)
  · simp only [decide_eq_true_eq] at h1
    have hxl : x < l.length := by omega
    obtain ⟨g0, g1, g2, g3⟩ := itemsD_get l x hxl
    have hlen := itemsD_length l
    obtain ⟨o1, o2, o3, o4⟩ := okI_parts (okL_get l x ho hxl)
    have hlt := hL_get l x hxl
    have hi : IntKind.i64.wrap ((x : Int) + 1) = ((x + 1 : Nat) : Int) := by rw [wrap_i64_of (by omega) (by omega)]; omega
    simp only [g0, g1, g2, g3, cellN_lit, cellL_lit, cellInt_lit, cellBool_lit, IsSl_lit, IsInt_lit, IsBool_lit, unI_itemsD, hi, ← cntP_succ l hxl]
    refine ⟨by omega, ⟨by omega, trivial, trivial, trivial, trivial⟩, ⟨⟨trivial, trivial⟩, by omega, o4, by simpa [maxLen] using o2⟩, x + 1, [], by omega, by omega, ?_⟩
    refine of_eq (B := letI z0 := (D.v (Value.int IntKind.i64 (((List.length l) : Nat) : Int))); letI z1 := (D.v (Value.int IntKind.i64 (((x + (1 : Nat)) : Nat) : Int))); letI z2 := (D.v (Value.int IntKind.i64 (cntP l (x + (1 : Nat))))); letI z3 := (D.ro (List.length l) (itemsD l)); letI z4 := ([] : List (Option Blk)); ((Bool.true = Bool.true) ∧ ((z4 = z4) ∧ ((True ∧ (z3 = z3)) ∧ ((True ∧ (z0 = z0)) ∧ ((True ∧ (z2 = z2)) ∧ ((True ∧ (z1 = z1)) ∧ True))))))) (by kernel_rfl) ?_; simp
  · simp only [decide_eq_false_iff_not] at h1
    have e : x = l.length := by omega
    subst e
    rw [cntP_all]
    refine ⟨(), [], ?_⟩
    refine of_eq (B := letI z0 := (D.v (Value.int IntKind.i64 (cntL l))); letI z1 := ([] : List (Option Blk)); ((Bool.true = Bool.true) ∧ ((z1 = z1) ∧ ((True ∧ (z0 = z0)) ∧ True)))) (by kernel_rfl) ?_; simp
theorem cnt_pure (l : List Itm) (h : Nat) (hpre : CntIH 12 h ∧ hL l ≤ h ∧ okL l ∧ l.length ≤ maxLen) : PureJ Try.prog 12 [.ro l.length (itemsD l)] (.v (.int .i64 (cntL l))) := by
  refine pureJ_of_vcp (call := noCalls) (lp := fun k => bif Nat.beq k 3 then some (lp_cntLoop l h) else none) (N := 10) T_ok mixed noCalls_ok Try.func12 rfl (by decide) (by kernel_rfl) (by kernel_rfl) (of_eq (B := LRuleP Try.prog Try.f12.ntmps (loopAt ((Try.f12.body).getD .skip) 3) (lp_cntLoop l h) ∧ True) (by kernel_rfl) ⟨cntLoop_rule l h hpre, trivial⟩) (by first | exact ⟨itemsD_nl l, trivial⟩ | trivial | simp [NamelessL, Nameless]) (by first | exact ⟨itemsD_nl l, trivial⟩ | trivial | simp [NamelessL, Nameless]) ?_
  refine of_eq (B := letI z1 := List.length l; letI z0 := (D.v (Value.int IntKind.i64 ((z1 : Nat) : Int))); letI z2 := (D.v (Value.int IntKind.i64 (0 : Int))); letI z3 := (D.v (Value.int IntKind.i64 (cntL l))); letI z4 := ([] : List (Option Blk)); letI z5 := (D.ro z1 (itemsD l)); (True ∧ (True ∧ (True ∧ (True ∧ (True ∧ (True ∧ (True ∧ (((0 : Nat) ≤ z1) ∧ (((Bool.true = Bool.true) ∧ ((z4 = z4) ∧ ((True ∧ (z5 = z5)) ∧ ((True ∧ (z0 = z0)) ∧ ((True ∧ (z0 = (D.v (Value.int IntKind.i64 (cntP l (0 : Nat)))))) ∧ ((True ∧ (z2 = z2)) ∧ True)))))) ∧ (Unit → (True → (True ∧ (True ∧ (True ∧ (True ∧ (z3 = z3))))))))))))))))) (by kernel_rfl) ?_
  simp only [true_and, and_true, and_self, IsInt_lit, IsBool_lit, IsStr_lit, IsSl_lit, cellN_lit, cellL_lit, Bool.not_eq_true', Bool.not_eq_false', Bool.not_true, Bool.not_false, Int.reduceLE, Int.reduceLT, Int.reduceNeg, Nat.le_refl, Int.le_refl, Nat.reduceLT, Nat.reduceLeDiff, Nat.reduceEqDiff, D.v.injEq, D.tup.injEq, D.agg.injEq, D.ro.injEq, List.cons.injEq, Value.int.injEq, Value.bool.injEq, pcond_true, pcond_false, NamelessL, Nameless, Nat.reduceMul, Nat.reduceAdd, Nat.zero_add, Int.toNat_natCast, cntP_zero]
  simp
theorem cnt_all : ∀ h, CntIH 12 h := by
  intro h
  induction h with
  | zero => intro l hl; omega
  | succ h ih => intro l h1 h2 h3; exact cnt_pure l h ⟨ih, by omega, h2, h3⟩
def ent_cnt : Ent := fun ds => match ds with
  | [.ro k ys] => some (.v (.int .i64 (cntL (unI ys))), (ys = itemsD (unI ys) ∧ k = (unI ys).length) ∧ okL (unI ys) ∧ (unI ys).length ≤ maxLen)
  | _ => none
theorem ent_cnt_of (f : FuncId) (ha : ∀ h, CntIH f h) : EntOk Try.prog f ent_cnt := by
  intro ds d c hd hc; unfold ent_cnt at hd; split at hd
  · rename_i k ys
    obtain ⟨rfl, rfl⟩ := pair_inj hd
    obtain ⟨⟨h1, h2⟩, h4, h5⟩ := hc
    generalize unI ys = l at *
    subst h1; subst h2
    exact ha _ l (Nat.lt_succ_self _) h4 h5
  · cases hd
theorem ent_cnt_ok : EntOk Try.prog 12 ent_cnt := ent_cnt_of _ cnt_all
theorem ent_rcntR_ok (h : Nat) (ih : CntIH 13 h) : EntOk Try.prog 13 (ent_cntR h) := ent_cntR_ok0 _ h ih
def ent_rcntR := ent_cntR
def lp_rcntLoop (l : List Itm) (h : Nat) : LoopO := loopRule (α := Nat) (β := Unit) [] (fun i => i ≤ l.length) (fun i => [(0, .ro l.length (itemsD l)), (3, .v (.int .i64 (cntP l i))), (4, .v (.int .i64 (i : Int)))]) (fun _ => []) (0) (fun _ => True) (fun _ => (.exit 0, [(3, .v (.int .i64 (cntL l)))], []))
theorem rcntLoop_rule (l : List Itm) (h : Nat) (hpre : CntIH 13 h ∧ hL l ≤ h ∧ okL l ∧ l.length ≤ maxLen) : LRuleP Try.prog Try.f13.ntmps (loopAt ((Try.f13.body).getD .skip) 3) (lp_rcntLoop l h) := by
  refine lrule_of (α := Nat) (β := Unit) (call := (addPure 13 (ent_rcntR h) noCalls)) (lp := fun _ => none) (N := 10) T_ok mixed (addPure_ok (ent_rcntR_ok h hpre.1) noCalls_ok) (fun i => l.length - i) (by kernel_rfl) (LpAllP.none _) ?_
  intro x hJ
  refine of_eq (B := letI z3 := ((x : Nat) : Int); letI z6 := (((Int.toNat z3) * (4 : Nat)) + (3 : Nat)); letI z0 := (List.getD (itemsD l) z6 (Inhabited.default)); letI z8 := (Exit.exit (0 : Nat)); letI z5 := ([] : List (Option Blk)); letI z1 := (Prod.mk z8 (Prod.mk [(Prod.mk (3 : Nat) (D.v (Value.int IntKind.i64 (cntL l))))] z5)); letI z2 := List.length l; letI z4 := (unI (cellL z0)); letI z7 := (Prod.mk (0 : Nat) (D.ro z2 (itemsD l))); letI z9 := (List (Option Nat)); (True ∧ (True ∧ (True ∧ (True ∧ (pcond (Decidable.decide (z3 < ((z2 : Nat) : Int))) (True ∧ (True ∧ (True ∧ ((((0 : Int) ≤ z3) ∧ (z3 < ((z2 : Nat) : Int))) ∧ (True ∧ (((z6 < (List.length (itemsD l))) ∧ (IsSl z0)) ∧ (((((cellL z0) = (itemsD z4)) ∧ ((cellN z0) = (List.length z4))) ∧ (((hL z4) < h) ∧ ((okL z4) ∧ ((List.length z4) ≤ (9223372036854775807 : Nat))))) ∧ (True ∧ (True ∧ (True ∧ (True ∧ (True ∧ (∃ (y : Nat), (∃ (kp : z9), (((z2 - y) < (z2 - x)) ∧ ((y ≤ z2) ∧ (viewAll kp [z7, (Prod.mk (3 : Nat) (D.v (Value.int IntKind.i64 (IntKind.wrap IntKind.i64 ((cntP l x) + (cntL z4)))))), (Prod.mk (4 : Nat) (D.v (Value.int IntKind.i64 (IntKind.wrap IntKind.i64 (z3 + (1 : Int))))))] z5 [z7, (Prod.mk (3 : Nat) (D.v (Value.int IntKind.i64 (cntP l y)))), (Prod.mk (4 : Nat) (D.v (Value.int IntKind.i64 ((y : Nat) : Int))))] z5))))))))))))))))) (∃ (r : Unit), (∃ (kp : z9), (True ∧ ((z8 = z8) ∧ (viewAll kp [(Prod.mk (3 : Nat) (D.v (Value.int IntKind.i64 (cntP l x))))] z5 (Prod.fst (Prod.snd ((fun (x_1 : Unit) => z1) r))) (Prod.snd (Prod.snd ((fun (x_1 : Unit) => z1) r)))))))))))))) (by kernel_rfl) ?_
  simp only [true_and, and_true, and_self, IsInt_lit, IsBool_lit, IsStr_lit, IsSl_lit, cellN_lit, cellL_lit, Bool.not_eq_true', Bool.not_eq_false', Bool.not_true, Bool.not_false, Int.reduceLE, Int.reduceLT, Int.reduceNeg, Nat.le_refl, Int.le_refl, Nat.reduceLT, Nat.reduceLeDiff, Nat.reduceEqDiff, D.v.injEq, D.tup.injEq, D.agg.injEq, D.ro.injEq, List.cons.injEq, Value.int.injEq, Value.bool.injEq, pcond_true, pcond_false, NamelessL, Nameless, Nat.reduceMul, Nat.reduceAdd, Nat.zero_add, Int.toNat_natCast] at *
  obtain ⟨ih, hh, ho, hlm⟩ := hpre
  simp only [maxLen] at hlm
  refine pcond_intro (fun h1 => ?_) (fun h1 => ?_)
  · simp only [decide_eq_true_eq] at h1
    have hxl : x < l.length := by omega
    obtain ⟨g0, g1, g2, g3⟩ := itemsD_get l x hxl
    have hlen := itemsD_length l
    obtain ⟨o1, o2, o3, o4⟩ := okI_parts (okL_get l x ho hxl)
    have hlt := hL_get l x hxl
    have hi : IntKind.i64.wrap ((x : Int) + 1) = ((x + 1 : Nat) : Int) := by rw [wrap_i64_of (by omega) (by omega)]; omega
    simp only [g0, g1, g2, g3, cellN_lit, cellL_lit, cellInt_lit, cellBool_lit, IsSl_lit, IsInt_lit, IsBool_lit, unI_itemsD, hi, ← cntP_succ l hxl]
    refine ⟨by omega, ⟨by omega, trivial⟩, ⟨⟨trivial, trivial⟩, by omega, o4, by simpa [maxLen] using o2⟩, x + 1, [], by omega, by omega, ?_⟩
    refine of_eq (B := letI z0 := (D.v (Value.int IntKind.i64 (((x + (1 : Nat)) : Nat) : Int))); letI z1 := (D.v (Value.int IntKind.i64 (cntP l (x + (1 : Nat))))); letI z2 := (D.ro (List.length l) (itemsD l)); letI z3 := ([] : List (Option Blk)); ((Bool.true = Bool.true) ∧ ((z3 = z3) ∧ ((True ∧ (z2 = z2)) ∧ ((True ∧ (z1 = z1)) ∧ ((True ∧ (z0 = z0)) ∧ True)))))) (by kernel_rfl) ?_; simp
  · simp only [decide_eq_false_iff_not] at h1
    have e : x = l.length := by omega
    subst e
    rw [cntP_all]
    refine ⟨(), [], ?_⟩
    refine of_eq (B := letI z0 := (D.v (Value.int IntKind.i64 (cntL l))); letI z1 := ([] : List (Option Blk)); ((Bool.true = Bool.true) ∧ ((z1 = z1) ∧ ((True ∧ (z0 = z0)) ∧ True)))) (by kernel_rfl) ?_; simp
theorem rcnt_pure (l : List Itm) (h : Nat) (hpre : CntIH 13 h ∧ hL l ≤ h ∧ okL l ∧ l.length ≤ maxLen) : PureJ Try.prog 13 [.ro l.length (itemsD l)] (.v (.int .i64 (cntL l))) := by
  refine pureJ_of_vcp (call := noCalls) (lp := fun k => bif Nat.beq k 3 then some (lp_rcntLoop l h) else none) (N := 10) T_ok mixed noCalls_ok Try.func13 rfl (by decide) (by kernel_rfl) (by kernel_rfl) (of_eq (B := LRuleP Try.prog Try.f13.ntmps (loopAt ((Try.f13.body).getD .skip) 3) (lp_rcntLoop l h) ∧ True) (by kernel_rfl) ⟨rcntLoop_rule l h hpre, trivial⟩) (by first | exact ⟨itemsD_nl l, trivial⟩ | trivial | simp [NamelessL, Nameless]) (by first | exact ⟨itemsD_nl l, trivial⟩ | trivial | simp [NamelessL, Nameless]) ?_
  refine of_eq (B := letI z0 := List.length l; letI z1 := (D.v (Value.int IntKind.i64 (0 : Int))); letI z2 := (D.v (Value.int IntKind.i64 (cntL l))); letI z3 := ([] : List (Option Blk)); letI z4 := (D.ro z0 (itemsD l)); (True ∧ (True ∧ (True ∧ (True ∧ (True ∧ (((0 : Nat) ≤ z0) ∧ (((Bool.true = Bool.true) ∧ ((z3 = z3) ∧ ((True ∧ (z4 = z4)) ∧ ((True ∧ ((D.v (Value.int IntKind.i64 ((z0 : Nat) : Int))) = (D.v (Value.int IntKind.i64 (cntP l (0 : Nat)))))) ∧ ((True ∧ (z1 = z1)) ∧ True))))) ∧ (Unit → (True → (True ∧ (True ∧ (True ∧ (True ∧ (z2 = z2))))))))))))))) (by kernel_rfl) ?_
  simp only [true_and, and_true, and_self, IsInt_lit, IsBool_lit, IsStr_lit, IsSl_lit, cellN_lit, cellL_lit, Bool.not_eq_true', Bool.not_eq_false', Bool.not_true, Bool.not_false, Int.reduceLE, Int.reduceLT, Int.reduceNeg, Nat.le_refl, Int.le_refl, Nat.reduceLT, Nat.reduceLeDiff, Nat.reduceEqDiff, D.v.injEq, D.tup.injEq, D.agg.injEq, D.ro.injEq, List.cons.injEq, Value.int.injEq, Value.bool.injEq, pcond_true, pcond_false, NamelessL, Nameless, Nat.reduceMul, Nat.reduceAdd, Nat.zero_add, Int.toNat_natCast, cntP_zero]
  simp
theorem rcnt_all : ∀ h, CntIH 13 h := by
  intro h
  induction h with
  | zero => intro l hl; omega
  | succ h ih => intro l h1 h2 h3; exact rcnt_pure l h ⟨ih, by omega, h2, h3⟩
def ent_rcnt := ent_cnt
theorem ent_rcnt_ok : EntOk Try.prog 13 ent_rcnt := ent_cnt_of _ rcnt_all
end Go.Proofs.Ytahiigfpikohgaa
end
