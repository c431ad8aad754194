import Derived.Test.YtahiigfpikohgaaZUo5
import Derived.ScopeJumps
import Derived.Scope
section
namespace Go.VD
set_option linter.unusedVariables false
set_option linter.unusedSimpArgs false
mutual
def shD (k : Nat) : D → D
  | .v x => .v x
  | .ro n xs => .ro n xs
  | .rp xs j => .rp xs j
  | .sl b off n c => .sl (b + k) off n c
  | .ptr b off => .ptr (b + k) off
  | .agg xs => .agg (shL k xs)
  | .tup xs => .tup (shL k xs)
  | .ifc t d => .ifc t (shD k d)
  | .fn f j caps => .fn f j (shL k caps)
def shL (k : Nat) : List D → List D
  | [] => []
  | d :: ds => shD k d :: shL k ds
end
theorem shL_length (k : Nat) : ∀ ds, (shL k ds).length = ds.length
  | [] => rfl
  | d :: ds => by simp [shL, shL_length k ds]
def shB (k : Nat) (b : Blk) : Blk := ⟨b.ty, shL k b.cs, b.full⟩
theorem Row.sh {k : Nat} {o : Option Obj} {blk : Blk} {cur : Array Value} (h : Row o blk cur) : Row o (shB k blk) cur := by
  rcases h with h | ⟨s, n, rfl, h2, h3, h4⟩
  · exact .inl h
  · exact .inr ⟨s, n, by simp [shB, shL, shD], h2, h3, h4⟩
def shO (k : Nat) : Option Blk → Option Blk
  | some b => some (shB k b)
  | none => none
def shH (k : Nat) (H : Heap) : Heap := H.map (shO k)
section
variable {ρ ρ' : Nat → Nat × Nat} {S S' : Nat → Prop} {w : World} {H H' : Heap} {k : Nat}
mutual
theorem Rd.shift (hS : ∀ x, S x → S' x) (hb : ∀ b, b < H.length → b + k < H'.length ∧ ρ' (b + k) = ρ b) : ∀ (d : D) (u : Value), Rd (ctx ρ S w H) d u → Rd (ctx ρ' S' w H') (shD k d) u
  | .v x, u, hr => by simpa only [Rd, shD] using hr
  | .ro n xs, u, hr => by
    have hn : NamelessL xs := by simp only [Rd] at hr; exact hr.1
    simp only [shD]; exact Rd.moveS hS (by simpa [Nameless] using hn) hr
  | .rp xs j, u, hr => by
    have hn : NamelessL xs := by simp only [Rd] at hr; exact hr.1
    simp only [shD]; exact Rd.moveS hS (by simpa [Nameless] using hn) hr
  | .sl b off n (.exact c _), u, hr => by
    simp only [Rd, shD] at hr ⊢
    obtain ⟨h0, h1, h2, A, h3, h4⟩ := hr
    exact ⟨(hb b h0).1, h1, h2, A, h3, by rw [(hb b h0).2]; exact h4⟩
  | .sl b off n (.toEnd es), u, hr => by
    simp only [Rd, shD] at hr ⊢
    obtain ⟨h0, A, c, h3, h1, h2, h4, h5⟩ := hr
    exact ⟨(hb b h0).1, A, c, h3, h1, h2, by rw [(hb b h0).2]; exact h4, by rw [(hb b h0).2]; exact h5⟩
  | .ptr b off, u, hr => by
    simp only [Rd, shD] at hr ⊢
    exact ⟨(hb b hr.1).1, by rw [(hb b hr.1).2]; exact hr.2⟩
  | .agg xs, u, hr => by
    simp only [Rd, shD] at hr ⊢
    obtain ⟨us, hu, hr⟩ := hr
    exact ⟨us, hu, RdL.shift hS hb xs us.toList hr⟩
  | .tup xs, u, hr => by
    simp only [Rd, shD] at hr ⊢
    obtain ⟨us, hu, hr⟩ := hr
    exact ⟨us, hu, RdT.shift hS hb xs us.toList hr⟩
  | .ifc t d, u, hr => by
    simp only [Rd, shD] at hr ⊢
    obtain ⟨x, hu, hr⟩ := hr
    exact ⟨x, hu, Rd.shift hS hb d x hr⟩
  | .fn f j caps, u, hr => by
    simp only [Rd, shD] at hr ⊢
    obtain ⟨fs, us, hu, hj, hr⟩ := hr
    exact ⟨fs, us, hu, hj, RdT.shift hS hb caps _ hr⟩
theorem RdL.shift (hS : ∀ x, S x → S' x) (hb : ∀ b, b < H.length → b + k < H'.length ∧ ρ' (b + k) = ρ b) : ∀ (ds : List D) (us : List Value), RdL (ctx ρ S w H) ds us → RdL (ctx ρ' S' w H') (shL k ds) us
  | [], us, hr => by simpa only [RdL, shL] using hr
  | d :: ds, us, hr => by
    simp only [RdL, shL] at hr ⊢
    obtain ⟨u, r, hu, ho, hd, hr⟩ := hr
    exact ⟨u, r, hu, ho, Rd.shift hS hb d u hd, RdL.shift hS hb ds r hr⟩
theorem RdT.shift (hS : ∀ x, S x → S' x) (hb : ∀ b, b < H.length → b + k < H'.length ∧ ρ' (b + k) = ρ b) : ∀ (ds : List D) (us : List Value), RdT (ctx ρ S w H) ds us → RdT (ctx ρ' S' w H') (shL k ds) us
  | [], us, hr => by simpa only [RdT, shL] using hr
  | d :: ds, us, hr => by
    simp only [RdT, shL] at hr ⊢
    obtain ⟨u, r, hu, hd, hr⟩ := hr
    exact ⟨u, r, hu, Rd.shift hS hb d u hd, RdT.shift hS hb ds r hr⟩
end
end
theorem shH_get {k : Nat} {H : Heap} {b : Nat} {blk : Blk} (h : (shH k H)[b]? = some (some blk)) : ∃ blk0, H[b]? = some (some blk0) ∧ blk = shB k blk0 := by
  simp only [shH, List.getElem?_map] at h
  cases hb : H[b]? with
  | none => simp [hb] at h
  | some o =>
    simp only [hb, Option.map_some, Option.some.injEq] at h
    cases o with
    | none => simp [shO] at h
    | some blk0 => exact ⟨blk0, rfl, by simpa [shO] using h.symm⟩
theorem CallJ.frame {P : Program} {f : FuncId} {ds : List D} {d : D} {H1 : Heap} (h : CallJ P f ds [] d H1) (hn : NamelessL ds) (H : Heap) : CallJ P f ds H (shD H.length d) (H ++ shH H.length H1) := by
  refine ⟨h.1, fun ρ S w vals hS hv => ?_⟩
  have hsub : ∀ k, S k → k < w.heap.size := fun k hk => (hS.sub k hk).1
  refine (h.2 ρ S w vals (St.nil _ hsub hS.glob) (RdT.move hn hv)).mono fun e w' ⟨v, ρ1, S1, he, hS1, hle, hd⟩ => ?_
  have nl : ∀ k, ¬ Live ρ [] k := fun k ⟨b, blk, hb, _⟩ => by simp at hb
  have new : ∀ k, Live ρ1 H1 k → w.heap.size ≤ k := fun k hk => by
    rcases Nat.lt_or_ge k w.heap.size with h | h
    · exact absurd hk (hle.fix k ⟨h, nl k⟩).2
    · exact h
  let ρ2 : Nat → Nat × Nat := fun b => if b < H.length then ρ b else ρ1 (b - H.length)
  have e1 : ∀ b, b < H.length → ρ2 b = ρ b := fun b hb => if_pos hb
  have e2 : ∀ b, ρ2 (b + H.length) = ρ1 b := fun b => by
    show (if _ then _ else _) = _
    rw [if_neg (by omega)]; congr 1; omega
  have split : ∀ b blk, (H ++ shH H.length H1)[b]? = some (some blk) → (b < H.length ∧ H[b]? = some (some blk)) ∨ (∃ c blk0, b = c + H.length ∧ H1[c]? = some (some blk0) ∧ blk = shB H.length blk0) := by
    intro b blk hb
    rcases Nat.lt_or_ge b H.length with hlt | hge
    · rw [List.getElem?_append_left hlt] at hb; exact .inl ⟨hlt, hb⟩
    · rw [List.getElem?_append_right hge] at hb
      obtain ⟨blk0, h1, h2⟩ := shH_get hb
      exact .inr ⟨b - H.length, blk0, by omega, h1, h2⟩
  have live : ∀ k, Live ρ2 (H ++ shH H.length H1) k → Live ρ H k ∨ Live ρ1 H1 k := by
    rintro k ⟨b, blk, hb, hz, hk⟩
    rcases split b blk hb with ⟨h1, h2⟩ | ⟨c, blk0, rfl, h2, h3⟩
    · rw [e1 b h1] at hz hk; exact .inl ⟨b, blk, h2, hz, hk⟩
    · rw [e2] at hz hk; exact .inr ⟨c, blk0, h2, hz, hk⟩
  have hlen : (H ++ shH H.length H1).length = H.length + H1.length := by simp [shH]
  have hle2 : (ctx ρ S w H).le (ctx ρ2 S1 w' (H ++ shH H.length H1)) :=
    ⟨by simp [shH], e1, hle.S, hle.keep, fun k hk => by
      rcases hle.new k hk with h | h | h
      · exact .inl h
      · exact absurd h (nl k)
      · exact .inr (.inr h),
    fun k hk => ⟨Nat.lt_of_lt_of_le hk.1 hle.size, fun hl => by
      rcases live k hl with h | h
      · exact hk.2 h
      · have := new k h; have := hk.1; simp only [ctx] at *; omega⟩,
    fun k hk => hle.heap k ⟨hk.1, nl k⟩, hle.size, hle.os, hle.tape, hle.output⟩
  have hsh : ∀ b, b < H1.length → b + H.length < (H ++ shH H.length H1).length ∧ ρ2 (b + H.length) = ρ1 b := fun b hb => ⟨by rw [hlen]; omega, e2 b⟩
  refine ⟨v, ρ2, S1, he, ⟨fun k hk => ⟨(hS1.sub k hk).1, fun hl => ?_⟩, ?_, ?_, ?_, hS1.glob⟩, hle2, Rd.shift (fun _ h => h) hsh d v hd⟩
  · rcases live k hl with h | h
    · rcases hle.new k hk with h2 | h2 | h2
      · exact (hS.sub k h2).2 h
      · exact nl k h2
      · have := hS.lt h; simp only [ctx] at *; omega
    · exact (hS1.sub k hk).2 h
  · intro b blk hb hz
    rcases split b blk hb with ⟨h1, h2⟩ | ⟨c, blk0, rfl, h2, rfl⟩
    · rw [e1 b h1] at hz; exact hS.none b blk h2 hz
    · rw [e2] at hz
      have := hS1.none c blk0 h2 hz
      simp [shB, this, shL]
  · intro b blk hb hz
    rcases split b blk hb with ⟨h1, h2⟩ | ⟨c, blk0, rfl, h2, rfl⟩
    · rw [e1 b h1] at hz ⊢
      obtain ⟨cur, hc⟩ := hS.blk b blk h2 hz
      exact ⟨cur, hc.heap.of (hle.heap _ ⟨hc.lt, nl _⟩), hc.size, hc.pre.mono hle2 _ _, hc.full⟩
    · rw [e2] at hz ⊢
      obtain ⟨cur, hc⟩ := hS1.blk c blk0 h2 hz
      refine ⟨cur, hc.heap.sh, hc.size, ?_, fun hf => ?_⟩
      · have := RdL.shift (S' := S1) (fun _ h => h) hsh blk0.cs _ hc.pre
        simpa [shB, shL_length] using this
      · have := hc.full (by simpa [shB] using hf)
        simpa [shB, shL_length] using this
  · intro b b' blk blk' hb hb' hz hz' hk
    rcases split b blk hb with ⟨h1, h2⟩ | ⟨c, blk0, rfl, h2, rfl⟩ <;> rcases split b' blk' hb' with ⟨h1', h2'⟩ | ⟨c', blk0', rfl, h2', rfl⟩
    · rw [e1 b h1] at hz hk; rw [e1 b' h1'] at hz' hk
      exact hS.inj b b' blk blk' h2 h2' hz hz' hk
    · rw [e1 b h1] at hz hk; rw [e2] at hz' hk
      have := new _ ⟨c', blk0', h2', hz', rfl⟩
      have := hS.lt ⟨b, blk, h2, hz, rfl⟩
      omega
    · rw [e2] at hz hk; rw [e1 b' h1'] at hz' hk
      have := new _ ⟨c, blk0, h2, hz, rfl⟩
      have := hS.lt ⟨b', blk', h2', hz', rfl⟩
      omega
    · rw [e2] at hz hk; rw [e2] at hz' hk
      have := hS1.inj c c' blk0 blk0' h2 h2' hz hz' hk
      omega
mutual
def namelessB : D → Bool
  | .v _ => true
  | .ro _ xs => namelessLB xs
  | .rp xs _ => namelessLB xs
  | .sl .. => false
  | .ptr .. => false
  | .agg xs => namelessLB xs
  | .tup xs => namelessLB xs
  | .ifc _ d => namelessB d
  | .fn _ _ caps => namelessLB caps
def namelessLB : List D → Bool
  | [] => true
  | d :: ds => namelessB d && namelessLB ds
end
mutual
theorem namelessB_ok : ∀ d : D, namelessB d = true → Nameless d
  | .v _, h => trivial
  | .ro _ xs, h => by simp only [namelessB] at h; simp only [Nameless]; exact namelessLB_ok xs h
  | .rp xs _, h => by simp only [namelessB] at h; simp only [Nameless]; exact namelessLB_ok xs h
  | .sl .., h => by simp [namelessB] at h
  | .ptr .., h => by simp [namelessB] at h
  | .agg xs, h => by simp only [namelessB] at h; simp only [Nameless]; exact namelessLB_ok xs h
  | .tup xs, h => by simp only [namelessB] at h; simp only [Nameless]; exact namelessLB_ok xs h
  | .ifc _ d, h => by simp only [namelessB] at h; simp only [Nameless]; exact namelessB_ok d h
  | .fn _ _ caps, h => by simp only [namelessB] at h; simp only [Nameless]; exact namelessLB_ok caps h
theorem namelessLB_ok : ∀ ds : List D, namelessLB ds = true → NamelessL ds
  | [], h => trivial
  | d :: ds, h => by simp only [namelessLB, Bool.and_eq_true] at h; simp only [NamelessL]; exact ⟨namelessB_ok d h.1, namelessLB_ok ds h.2⟩
end
theorem sealL_length {H : Heap} : ∀ {ds es : List D} {c : Prop}, sealL H ds = some (es, c) → es.length = ds.length
  | [], es, c, h => by simp only [sealL] at h; obtain ⟨rfl, _⟩ := pair_inj h; rfl
  | d :: ds, es, c, h => by
    simp only [sealL] at h
    split at h
    · rename_i h1 h2
      obtain ⟨rfl, _⟩ := pair_inj h
      simp [sealL_length h2]
    · cases h
def scalarL : List D → Bool
  | [] => true
  | .v _ :: r => scalarL r
  | _ => false
def scalarB : D → Bool
  | .v _ => true
  | .tup xs => scalarL xs
  | _ => false
theorem scalarL_rd {E E' : Ctx} : ∀ (ds : List D) (us : List Value), scalarL ds = true → RdT E ds us → RdT E' ds us
  | [], us, _, h => by simpa only [RdT] using h
  | .v x :: r, us, hs, h => by
    simp only [scalarL] at hs
    simp only [RdT, Rd] at h ⊢
    obtain ⟨u, q, e, hu, h⟩ := h
    exact ⟨u, q, e, hu, scalarL_rd r q hs h⟩
  | .ro .. :: _, _, hs, _ => by simp [scalarL] at hs
  | .rp .. :: _, _, hs, _ => by simp [scalarL] at hs
  | .sl .. :: _, _, hs, _ => by simp [scalarL] at hs
  | .ptr .. :: _, _, hs, _ => by simp [scalarL] at hs
  | .agg .. :: _, _, hs, _ => by simp [scalarL] at hs
  | .tup .. :: _, _, hs, _ => by simp [scalarL] at hs
  | .ifc .. :: _, _, hs, _ => by simp [scalarL] at hs
  | .fn .. :: _, _, hs, _ => by simp [scalarL] at hs
theorem scalarB_rd {E E' : Ctx} {d : D} {u : Value} (hs : scalarB d = true) (h : Rd E d u) : Rd E' d u := by
  cases d <;> simp only [scalarB] at hs <;> first | (cases hs; done) | skip
  case v x => simpa only [Rd] using h
  case tup xs =>
    simp only [Rd] at h ⊢
    obtain ⟨us, hu, h⟩ := h
    exact ⟨us, hu, scalarL_rd xs us.toList hs h⟩
theorem scalarL_nameless : ∀ {ds : List D}, scalarL ds = true → NamelessL ds
  | [], _ => trivial
  | .v _ :: r, h => by simp only [scalarL] at h; simp only [NamelessL, Nameless]; exact ⟨trivial, scalarL_nameless h⟩
  | .ro .. :: _, hs => by simp [scalarL] at hs
  | .rp .. :: _, hs => by simp [scalarL] at hs
  | .sl .. :: _, hs => by simp [scalarL] at hs
  | .ptr .. :: _, hs => by simp [scalarL] at hs
  | .agg .. :: _, hs => by simp [scalarL] at hs
  | .tup .. :: _, hs => by simp [scalarL] at hs
  | .ifc .. :: _, hs => by simp [scalarL] at hs
  | .fn .. :: _, hs => by simp [scalarL] at hs
theorem scalarB_nameless {d : D} (hs : scalarB d = true) : Nameless d := by
  cases d <;> simp only [scalarB] at hs <;> first | (cases hs; done) | skip
  case v x => trivial
  case tup xs => simp only [Nameless]; exact scalarL_nameless hs
theorem PureJ.borrow {P : Program} {f : FuncId} {ds ds' : List D} {d : D} {H : Heap} {c : Prop} (h : PureJ P f ds' d) (hs : sealL H ds = some (ds', c)) (hc : c) (hd : scalarB d = true) : CallJ P f ds H d H := by
  refine ⟨h.callable, fun ρ S w vals hS hv => ?_⟩
  have hsub : ∀ k, (S k ∨ Live ρ H k) → k < w.heap.size := fun k hk => by
    rcases hk with h | h
    · exact (hS.sub k h).1
    · exact hS.lt h
  have h1 : RdT (ctx ρ (fun k => S k ∨ Live ρ H k) w []) ds' vals :=
    sealT_rd (S' := fun k => S k ∨ Live ρ H k) (H' := []) hS (fun k h => .inl h) (fun b blk hb hz => .inr ⟨b, blk, hb, hz, rfl⟩) ds ds' c vals hs hc hv
  refine (h.call (fun k => S k ∨ Live ρ H k) w vals hsub (hS.glob.mono (fun _ h => .inl h) fun _ _ => rfl) (RdT.move h.args h1)).mono fun e w' ⟨v, S', he, hg, _, _, _, hr⟩ => ?_
  exact ⟨v, ρ, S, he, hS.grow hg, hg.le (fun k hk => (hS.sub k hk).1), scalarB_rd hd hr⟩
def dropN (H : Heap) : List Nat → Heap
  | [] => H
  | b :: r => dropN (H.set b none) r
theorem dropN_drops : ∀ (l : List Nat) (H : Heap), Drops H (dropN H l)
  | [], H => Drops.refl H
  | b :: r, H => (Drops.set H b).trans (dropN_drops r _)
theorem dropN_gone : ∀ (l : List Nat) (H : Heap) (b : Nat), b ∈ l → ∀ blk, ¬ (dropN H l)[b]? = some (some blk)
  | [], H, b, h, _ => by simp at h
  | c :: r, H, b, h, blk => by
    intro hb
    have hd := (dropN_drops r (H.set c none)).2 b blk hb
    rcases List.mem_cons.1 h with rfl | h
    · rw [List.getElem?_set] at hd
      split at hd <;> simp_all
    · exact dropN_gone r (H.set c none) b h blk hb
theorem PureJ.hand {P : Program} {f : FuncId} {ds ds' : List D} {d : D} {H : Heap} {c : Prop} (h : PureJ P f ds' d) (hs : sealL H ds = some (ds', c)) (hc : c) : CallJ P f ds H d (dropN H (namesD.namesA ds)) := by
  refine ⟨h.callable, fun ρ S w vals hS hv => ?_⟩
  let S0 : Nat → Prop := fun k => S k ∨ ∃ b blk, b ∈ namesD.namesA ds ∧ H[b]? = some (some blk) ∧ 0 < (ρ b).2 ∧ (ρ b).1 = k
  have hD := dropN_drops (namesD.namesA ds) H
  have hsub : ∀ k, S0 k → k < w.heap.size := fun k hk => by
    rcases hk with h | ⟨b, blk, _, h2, h3, h4⟩
    · exact (hS.sub k h).1
    · exact hS.lt ⟨b, blk, h2, h3, h4⟩
  have h1 : RdT (ctx ρ S0 w []) ds' vals :=
    sealT_rdN (N := fun b => b ∈ namesD.namesA ds) (S' := S0) (H' := []) hS (fun k h => .inl h) (fun b blk hn hb hz => .inr ⟨b, blk, hn, hb, hz, rfl⟩) ds ds' c vals (fun b hb => hb) hs hc hv
  have hfix0 : ∀ k, S0 k → Fix (ctx ρ S0 w (dropN H (namesD.namesA ds))) k := fun k hk => ⟨hsub k hk, fun ⟨b, blk, hb, hz, e⟩ => by
    have hb0 := hD.2 b blk hb
    rcases hk with hk | ⟨b', blk', hn, hb', hz', e'⟩
    · exact (hS.sub k hk).2 ⟨b, blk, hb0, hz, e⟩
    · have := hS.inj b b' _ _ hb0 hb' hz hz' (e.trans e'.symm)
      subst this
      exact dropN_gone _ H b hn blk hb⟩
  refine (h.call S0 w vals hsub (hS.glob.mono (fun _ h => .inl h) fun _ _ => rfl) (RdT.move h.args h1)).mono fun e w' ⟨v, S', he, hg, g1, g2, g3, g4⟩ => ?_
  have hSd := hS.drops hD
  have hfix : ∀ k, S' k → Fix (ctx ρ S' w' (dropN H (namesD.namesA ds))) k := fun k hk => ⟨g3 k hk, fun hl => by
    rcases g2 k hk with h | h
    · exact (hfix0 k h).2 hl
    · have := hSd.lt hl; omega⟩
  have hle : (ctx ρ S w H).le (ctx ρ S' w' (dropN H (namesD.namesA ds))) :=
    ⟨Nat.le_of_eq hD.1.symm, fun _ _ => rfl, fun k hk => g1 k (.inl hk), fun k hk => hg.heap k (hS.sub k hk).1, fun k hk => by
      rcases g2 k hk with (h | ⟨b, blk, _, h2, h3, h4⟩) | h
      · exact .inl h
      · exact .inr (.inl ⟨b, blk, h2, h3, h4⟩)
      · exact .inr (.inr h),
     fun k hk => ⟨Nat.lt_of_lt_of_le hk.1 hg.size, fun ⟨b, blk, hb, hz, e⟩ => hk.2 ⟨b, blk, hD.2 b blk hb, hz, e⟩⟩, fun k hk => hg.heap k hk.1, hg.size, hg.os, hg.tape, hg.output⟩
  refine ⟨v, ρ, S', he, ⟨hfix, fun b blk hb hz => hS.none b blk (hD.2 b blk hb) hz, fun b blk hb hz => ?_, fun b b' blk blk' hb hb' hz hz' e => hS.inj b b' _ _ (hD.2 _ _ hb) (hD.2 _ _ hb') hz hz' e, hS.glob.mono (fun _ h => g1 _ (.inl h)) hle.keep⟩, hle, Rd.move h.res g4⟩
  obtain ⟨cur, hcur⟩ := hS.blk b blk (hD.2 b blk hb) hz
  exact ⟨cur, hcur.heap.of (hg.heap _ hcur.lt), hcur.size, hcur.pre.mono hle _ _, hcur.full⟩
mutual
def sealDB (H : Heap) : D → Bool
  | .sl b off n c => match blkAt H b with
    | some blk => match c with
      | .exact _ es => namelessLB blk.cs && (decide (0 < es) && decide (off + n * es ≤ blk.cs.length))
      | .toEnd es => namelessLB blk.cs && (decide (0 < es) && decide (off + n * es ≤ blk.cs.length))
    | none => false
  | .ptr b off => match blkAt H b with
    | some blk => namelessLB blk.cs && decide (0 < blk.cs.length)
    | none => false
  | .agg xs => sealLB H xs
  | .tup xs => sealLB H xs
  | .ifc _ d => sealDB H d
  | .fn _ _ caps => sealLB H caps
  | _ => true
def sealLB (H : Heap) : List D → Bool
  | [] => true
  | d :: ds => sealDB H d && sealLB H ds
end
mutual
theorem sealDB_ok {H : Heap} : ∀ (d e : D) (c : Prop), sealD H d = some (e, c) → sealDB H d = true → c
  | .v x, e, c, h, hb => by simp only [sealD] at h; obtain ⟨_, rfl⟩ := pair_inj h; trivial
  | .ro n xs, e, c, h, hb => by simp only [sealD] at h; obtain ⟨_, rfl⟩ := pair_inj h; trivial
  | .rp xs j, e, c, h, hb => by simp only [sealD] at h; obtain ⟨_, rfl⟩ := pair_inj h; trivial
  | .sl b off n cp, e, c, h, hb => by
    simp only [sealD] at h
    split at h
    · rename_i blk hblk
      cases cp <;> simp only at h <;> obtain ⟨_, rfl⟩ := pair_inj h <;> simp only [sealDB, hblk, Bool.and_eq_true, decide_eq_true_eq] at hb <;> exact ⟨namelessLB_ok _ hb.1, hb.2⟩
    · cases h
  | .ptr b off, e, c, h, hb => by
    simp only [sealD] at h
    split at h
    · rename_i blk hblk
      obtain ⟨_, rfl⟩ := pair_inj h
      simp only [sealDB, hblk, Bool.and_eq_true, decide_eq_true_eq] at hb
      exact ⟨namelessLB_ok _ hb.1, hb.2⟩
    · cases h
  | .agg xs, e, c, h, hb => by
    simp only [sealD] at h
    split at h
    · rename_i hl
      obtain ⟨_, rfl⟩ := pair_inj h
      exact sealLB_ok xs _ _ hl (by simpa only [sealDB] using hb)
    · cases h
  | .tup xs, e, c, h, hb => by
    simp only [sealD] at h
    split at h
    · rename_i hl
      obtain ⟨_, rfl⟩ := pair_inj h
      exact sealLB_ok xs _ _ hl (by simpa only [sealDB] using hb)
    · cases h
  | .ifc t d, e, c, h, hb => by
    simp only [sealD] at h
    split at h
    · rename_i hl
      obtain ⟨_, rfl⟩ := pair_inj h
      exact sealDB_ok d _ _ hl (by simpa only [sealDB] using hb)
    · cases h
  | .fn f j caps, e, c, h, hb => by
    simp only [sealD] at h
    split at h
    · rename_i hl
      obtain ⟨_, rfl⟩ := pair_inj h
      exact sealLB_ok caps _ _ hl (by simpa only [sealDB] using hb)
    · cases h
theorem sealLB_ok {H : Heap} : ∀ (ds es : List D) (c : Prop), sealL H ds = some (es, c) → sealLB H ds = true → c
  | [], es, c, h, hb => by simp only [sealL] at h; obtain ⟨_, rfl⟩ := pair_inj h; trivial
  | d :: ds, es, c, h, hb => by
    simp only [sealL] at h
    split at h
    · rename_i h1 h2
      obtain ⟨_, rfl⟩ := pair_inj h
      simp only [sealLB, Bool.and_eq_true] at hb
      exact ⟨sealDB_ok d _ _ h1 hb.1, sealLB_ok ds _ _ h2 hb.2⟩
    · cases h
end
end Go.VD
end
section
namespace Go.VD
set_option linter.unusedVariables false
set_option linter.unusedSimpArgs false
theorem exists_min {p : Nat → Prop} (h : ∃ n, p n) : ∃ n, p n ∧ ∀ m, p m → n ≤ m := by
  obtain ⟨n, hn⟩ := h
  induction n using Nat.strongRecOn with
  | _ n ih =>
    by_cases hm : ∃ m, m < n ∧ p m
    · obtain ⟨m, h1, h2⟩ := hm
      exact ih m h1 h2
    · exact ⟨n, hn, fun m h2 => Nat.le_of_not_lt fun h1 => hm ⟨m, h1, h2⟩⟩
open Classical in
theorem wp_scope_ghost {P : Program} {a : Act} {w : World} {Q : Exit → Act → World → Prop} {c rest : Code} (l : Nat) (J : Nat → Act → World → Prop) (hf : findLabel c l = some rest)
    (first : c.wp P (Exit.jump l (fun a w => ∃ n, J n a w) Q) a w)
    (pass : ∀ n a w, J n a w → rest.wp P (Exit.jump l (fun a' w' => ∃ m, m < n ∧ J m a' w') Q) a w) : (Code.scope c).wp P Q a w := by
  let μ : Act → World → Nat := fun a w => if h : ∃ n, J n a w then Classical.choose (exists_min h) else 0
  refine wp_scope_jumps l (fun a w => ∃ n, J n a w) μ hf first fun a w hJ => ?_
  have hs := Classical.choose_spec (exists_min hJ)
  have hμ : μ a w = Classical.choose (exists_min hJ) := dif_pos hJ
  refine wp_mono (pass _ a w hs.1) fun e a' w' he => ?_
  cases e with
  | goto l' =>
    obtain ⟨rfl, m, hm, hJm⟩ := he
    have h' : ∃ n, J n a' w' := ⟨m, hJm⟩
    refine ⟨rfl, h', ?_⟩
    have h2 := (Classical.choose_spec (exists_min h')).2 m hJm
    have h3 : μ a' w' = Classical.choose (exists_min h') := dif_pos h'
    show μ a' w' < μ a w
    rw [hμ, h3]
    omega
  | _ => exact he
def jumpQ (l : Nat) (J : Env → Heap → Prop) (Q : Exit → Env → Heap → Prop) : Exit → Env → Heap → Prop
  | .goto l', env, H => l' = l ∧ J env H
  | e, env, H => Q e env H
theorem RdL.moveZ {ρ ρ' : Nat → Nat × Nat} {S : Nat → Prop} {w : World} {H H' : Heap} {ds : List D} {us : List Value} (hn : NamelessL ds) (h : RdL (ctx ρ S w H) ds us) : RdL (ctx ρ' S w H') ds us :=
  RdL.nameless (E := ctx ρ S w H) (E' := ctx ρ' S w H') (fun _ h => h) (fun _ _ => rfl) ds us hn h
theorem CallJ.framePtr {P : Program} {f : FuncId} {off : Nat} {plain : List D} {blk blk' : Blk} {d : D} (h : CallJ P f (.ptr 0 off :: plain) [some blk] d [some blk']) (hpl : NamelessL plain) (hd : Nameless d) (hc : NamelessL blk.cs) (hc' : NamelessL blk'.cs)
    {H : Heap} {b : Nat} (hb : H[b]? = some (some blk)) : CallJ P f (.ptr b off :: plain) H d (H.set b (some blk')) := by
  have hbl : b < H.length := (List.getElem?_eq_some_iff.1 hb).1
  refine ⟨h.1, fun ρ S w vals hS hv => ?_⟩
  have live1 : ∀ k, Live (fun _ => ρ b) [some blk] k → 0 < (ρ b).2 ∧ (ρ b).1 = k := by
    rintro k ⟨i, bl, hi, hz, e⟩
    exact ⟨hz, e⟩
  have live1H : ∀ k, Live (fun _ => ρ b) [some blk] k → Live ρ H k := fun k hk => ⟨b, blk, hb, (live1 k hk).1, (live1 k hk).2⟩
  have hS1 : St (fun _ => ρ b) S w [some blk] := by
    refine ⟨fun k hk => ⟨(hS.sub k hk).1, fun hl => (hS.sub k hk).2 (live1H k hl)⟩, fun i bl hi hz => ?_, fun i bl hi hz => ?_, fun i j bi bj hi hj _ _ _ => ?_, hS.glob⟩
    · cases i with
      | zero => simp at hi; subst hi; exact hS.none b _ hb hz
      | succ i => simp at hi
    · cases i with
      | zero =>
        simp at hi; subst hi
        obtain ⟨cur, hcur⟩ := hS.blk b _ hb hz
        exact ⟨cur, hcur.heap, hcur.size, RdL.moveZ hc hcur.pre, hcur.full⟩
      | succ i => simp at hi
    · cases i with
      | zero => cases j with
        | zero => rfl
        | succ j => simp at hj
      | succ i => simp at hi
  have hv1 : RdT (ctx (fun _ => ρ b) S w [some blk]) (.ptr 0 off :: plain) vals := by
    simp only [RdT] at hv ⊢
    obtain ⟨u, r, e, h1, h2⟩ := hv
    refine ⟨u, r, e, ?_, RdT.move hpl h2⟩
    simp only [Rd] at h1 ⊢; exact ⟨by simp, h1.2⟩
  refine (h.2 _ S w vals hS1 hv1).mono fun e w' ⟨v, ρ', S', he, hS', hle, hr⟩ => ?_
  have e0 : ρ' 0 = ρ b := hle.ρ 0 (by simp)
  have live' : ∀ k, Live ρ (H.set b (some blk')) k → (0 < (ρ b).2 ∧ (ρ b).1 = k) ∨ ∃ i bl, i ≠ b ∧ H[i]? = some (some bl) ∧ 0 < (ρ i).2 ∧ (ρ i).1 = k := by
    rintro k ⟨i, bl, hi, hz, e⟩
    by_cases hib : b = i
    · subst hib; exact .inl ⟨hz, e⟩
    · rw [List.getElem?_set_ne hib] at hi
      exact .inr ⟨i, bl, fun e => hib e.symm, hi, hz, e⟩
  have live2 : ∀ k, (0 < (ρ b).2 ∧ (ρ b).1 = k) → Live ρ' [some blk'] k := fun k hk => ⟨0, blk', by simp, by rw [e0]; exact hk.1, by rw [e0]; exact hk.2⟩
  have hle2 : (ctx ρ S w H).le (ctx ρ S' w' (H.set b (some blk'))) := by
    refine ⟨by simp, fun _ _ => rfl, hle.S, hle.keep, fun k hk => ?_, fun k hk => ⟨Nat.lt_of_lt_of_le hk.1 hle.size, fun hl => ?_⟩, fun k hk => hle.heap k ⟨hk.1, fun hl => hk.2 (live1H k hl)⟩, hle.size, hle.os, hle.tape, hle.output⟩
    · rcases hle.new k hk with h | h | h
      · exact .inl h
      · exact .inr (.inl (live1H k h))
      · exact .inr (.inr h)
    · rcases live' k hl with h | ⟨i, bl, _, hi, hz, e⟩
      · exact hk.2 ⟨b, blk, hb, h.1, h.2⟩
      · exact hk.2 ⟨i, bl, hi, hz, e⟩
  refine ⟨v, ρ, S', he, ⟨fun k hk => ⟨(hS'.sub k hk).1, fun hl => ?_⟩, fun i bl hi hz => ?_, fun i bl hi hz => ?_, fun i j bi bj hi hj hz hz' e => ?_, hS'.glob⟩, hle2, Rd.move hd hr⟩
  · rcases live' k hl with h | ⟨i, bl, hib, hi, hz, e⟩
    · exact (hS'.sub k hk).2 (live2 k h)
    · rcases hle.new k hk with h | h | h
      · exact (hS.sub k h).2 ⟨i, bl, hi, hz, e⟩
      · obtain ⟨hz1, e1⟩ := live1 k h
        exact hib (hS.inj i b _ _ hi hb hz hz1 (e.trans e1.symm))
      · have := hS.lt ⟨i, bl, hi, hz, e⟩; simp only [ctx] at *; omega
  · by_cases hib : b = i
    · subst hib
      rw [List.getElem?_set_self hbl] at hi
      injection hi with hi; injection hi with hi; subst hi
      exact hS'.none 0 blk' (by simp) (by rw [e0]; exact hz)
    · rw [List.getElem?_set_ne hib] at hi; exact hS.none i bl hi hz
  · by_cases hib : b = i
    · subst hib
      rw [List.getElem?_set_self hbl] at hi
      injection hi with hi; injection hi with hi; subst hi
      obtain ⟨cur, hcur⟩ := hS'.blk 0 blk' (by simp) (by rw [e0]; exact hz)
      have hh := hcur.heap
      have hs := hcur.size
      rw [e0] at hh hs
      exact ⟨cur, hh, hs, RdL.moveZ hc' hcur.pre, hcur.full⟩
    · rw [List.getElem?_set_ne hib] at hi
      obtain ⟨cur, hcur⟩ := hS.blk i bl hi hz
      refine ⟨cur, hcur.heap.of (hle.heap _ ⟨hcur.lt, fun hl => ?_⟩), hcur.size, hcur.pre.mono hle2 _ _, hcur.full⟩
      obtain ⟨hz1, e1⟩ := live1 _ hl
      exact hib (hS.inj b i _ _ hb hi hz1 hz e1)
  · have back : ∀ i bi, (H.set b (some blk'))[i]? = some (some bi) → ∃ bl, H[i]? = some (some bl) := fun i bi hi => by
      by_cases hib : b = i
      · subst hib; exact ⟨blk, hb⟩
      · rw [List.getElem?_set_ne hib] at hi; exact ⟨bi, hi⟩
    obtain ⟨x, hx⟩ := back i bi hi
    obtain ⟨y, hy⟩ := back j bj hj
    exact hS.inj i j x y hx hy hz hz' e
theorem fin_head {ds : List D} {blk blk' : Blk} {d1 : D} {H1 : Heap} (h00 : H1[0]? = some (some blk')) (hn : Nameless d1) (hc' : NamelessL blk'.cs) : Fin ds [some blk] d1 H1 d1 [some blk'] := by
  intro ρ0 S0 w0 ρ S w u hS0 hle hS hr
  have live0 : ∀ k, Live ρ [some blk'] k → 0 < (ρ 0).2 ∧ (ρ 0).1 = k := by
    rintro k ⟨b, bl, hb, hz, e⟩
    cases b with
    | zero => exact ⟨hz, e⟩
    | succ b => simp at hb
  have up : ∀ k, Live ρ [some blk'] k → Live ρ H1 k := fun k hk => ⟨0, blk', h00, (live0 k hk).1, (live0 k hk).2⟩
  refine ⟨ρ, S, ⟨fun k hk => ⟨(hS.sub k hk).1, fun hl => (hS.sub k hk).2 (up k hl)⟩, fun b bl hb hz => ?_, fun b bl hb hz => ?_, fun i j bi bj hi hj _ _ _ => ?_, hS.glob⟩, ?_, Rd.move hn hr⟩
  · cases b with
    | zero => simp at hb; subst hb; exact hS.none 0 _ h00 hz
    | succ b => simp at hb
  · cases b with
    | zero =>
      simp at hb; subst hb
      obtain ⟨cur, hcur⟩ := hS.blk 0 _ h00 hz
      exact ⟨cur, hcur.heap, hcur.size, RdL.moveZ hc' hcur.pre, hcur.full⟩
    | succ b => simp at hb
  · cases i with
    | zero => cases j with
      | zero => rfl
      | succ j => simp at hj
    | succ i => simp at hi
  · exact ⟨by simp, hle.ρ, hle.S, hle.keep, hle.new, fun k hk => ⟨(hle.fix k hk).1, fun hl => (hle.fix k hk).2 (up k hl)⟩, hle.heap, hle.size, hle.os, hle.tape, hle.output⟩
variable {P : Program} {nt : Nat}
theorem DW.scopeJump {α : Type} {l : Nat} (J : α → Prop) (I : α → Env) (HI : α → Heap) (μ : α → Nat) {c rest : Code} {Q : Exit → Env → Heap → Prop} {env : Env} {H : Heap} (hf : findLabel c l = some rest)
    (first : DW P nt c (jumpQ l (fun env' H' => ∃ y, J y ∧ Has env' (I y) ∧ H' = HI y) Q) env H)
    (pass : ∀ x, J x → DW P nt rest (jumpQ l (fun env' H' => ∃ y, μ y < μ x ∧ J y ∧ Has env' (I y) ∧ H' = HI y) Q) (I x) (HI x)) : DW P nt (.scope c) Q env H := by
  intro ρ S w a hi
  refine wp_scope_ghost l (fun n a' w' => ∃ x ρ' S', μ x = n ∧ J x ∧ Inv nt ρ' S' w' (HI x) (I x) a' ∧ (ctx ρ S w H).le (ctx ρ' S' w' (HI x))) hf ?_ ?_
  · refine wp_mono (first ρ S w a hi) fun e a' w' ⟨env', H', ρ', S', h1, h2, h3⟩ => ?_
    cases e with
    | goto l' =>
      obtain ⟨rfl, y, hJ, hhas, rfl⟩ := h1
      exact ⟨rfl, μ y, y, ρ', S', rfl, hJ, h2.sub hhas, h3⟩
    | _ => exact ⟨env', H', ρ', S', h1, h2, h3⟩
  · rintro n a' w' ⟨x, ρ', S', rfl, hx, hi', hle⟩
    refine wp_mono (pass x hx ρ' S' w' a' hi') fun e a'' w'' ⟨env', H', ρ'', S'', h1, h2, h3⟩ => ?_
    cases e with
    | goto l' =>
      obtain ⟨rfl, y, hy, hJ, hhas, rfl⟩ := h1
      exact ⟨rfl, μ y, hy, y, ρ'', S'', rfl, hJ, h2.sub hhas, hle.trans h3⟩
    | _ => exact ⟨env', H', ρ'', S'', h1, h2, hle.trans h3⟩
end Go.VD
end
section
namespace Go.VD
set_option linter.unusedVariables false
set_option linter.unusedSimpArgs false
abbrev Callee := FuncId → List D → Heap → Option (D × Heap × Tch)
def prune : List Nat → Env → Env
  | _, [] => []
  | seen, (t, d) :: r => bif seen.contains t then prune seen r else (t, d) :: prune (t :: seen) r
theorem has_of {env : Env} : ∀ {r : Env}, (∀ t d, (t, d) ∈ r → env.lookup t = some d) → Has env r
  | [], _ => trivial
  | (t, d) :: r, h => ⟨h t d (by simp), has_of fun t d hm => h t d (by simp [hm])⟩
theorem prune_mem : ∀ (env : Env) (seen : List Nat) (t : Nat) (d : D), (t, d) ∈ prune seen env → seen.contains t = false ∧ env.lookup t = some d
  | [], seen, t, d, h => by simp [prune] at h
  | (s, e) :: r, seen, t, d, h => by
    simp only [prune] at h
    rw [List.lookup_cons]
    cases hs : seen.contains s with
    | true =>
      simp only [hs, cond_true] at h
      obtain ⟨h1, h2⟩ := prune_mem r seen t d h
      refine ⟨h1, ?_⟩
      have : (t == s) = false := by
        cases hts : t == s
        · rfl
        · have : t = s := by simpa using hts
          subst this; rw [h1] at hs; cases hs
      simp [this, h2]
    | false =>
      simp only [hs, cond_false, List.mem_cons] at h
      rcases h with h | h
      · injection h with h1 h2; subst h1; subst h2
        exact ⟨hs, by simp⟩
      · obtain ⟨h1, h2⟩ := prune_mem r (s :: seen) t d h
        simp only [List.contains_cons, Bool.or_eq_false_iff] at h1
        exact ⟨h1.2, by simp [h1.1, h2]⟩
theorem has_prune (env : Env) : Has env (prune [] env) := has_of fun t d h => (prune_mem env [] t d h).2
def evOp (P : Program) (call : Callee) (T : Tbl) (o : Oper) (env : Env) (H : Heap) : Option (D × Heap × Tch) :=
  match o.op with
  | .call { callee := .value f, args, argTypes } => match opnd env f, getAll env args.toList with
    | some (.fn g k caps), some ds => call g (argsOf k caps ds) H
    | _, _ => none
  | .call { callee := .invoke r name, args, argTypes } => match opnd env r, getAll env args.toList with
    | some (.ifc t d), some ds => match methOf P t name with
      | some g => call g (d :: ds) H
      | none => none
    | _, _ => none
  | op => match opP T env op with
    | some (d, _) => bif opPB T env op then some (d, H, .no) else none
    | none => match opH T env H op with
      | some out => bif opHB T env H op then some (out.d, out.H, out.touch) else none
      | none => none
def evOps (P : Program) (call : Callee) (T : Tbl) (ops : Array Oper) : List Oper → Env → Heap → List Tch → Option (Env × Heap × List Tch)
  | [], env, H, ts => some (env, H, ts)
  | o :: rest, env, H, ts =>
    match o.guard with
    | none => match evOp P call T o env H with
      | some (d, H', t) => evOps P call T ops rest (bindD o.dst d env) H' (t :: ts)
      | none => none
    | some (j, want) => match gslot ops j with
      | none => none
      | some s => match env.lookup s with
        | some (.v (.bool g)) => bif g == want then
            (match evOp P call T o ((s, .v (.bool want)) :: env) H with
            | some (d, H', t) => evOps P call T ops rest (bindD o.dst d ((s, .v (.bool want)) :: env)) H' (t :: ts)
            | none => none)
          else evOps P call T ops rest (bindD o.dst (.v undef) ((s, .v (.bool (!want))) :: env)) H (.no :: ts)
        | some (.v (.tuple us)) => match us.toList with
          | [] => evOps P call T ops rest (bindD o.dst (.v undef) env) H (.no :: ts)
          | _ => none
        | _ => none
def evIter (body : Env → Heap → Option (Exit × Env × Heap)) : Nat → Env → Heap → Option (Exit × Env × Heap)
  | 0, _, _ => none
  | n + 1, env, H => match body env H with
    | some (.normal, env', H') => evIter body n (prune [] env') H'
    | r => r
def evJump (body : Env → Heap → Option (Exit × Env × Heap)) (l : Nat) : Nat → Env → Heap → Option (Exit × Env × Heap)
  | 0, _, _ => none
  | n + 1, env, H => match body env H with
    | some (.goto l', env', H') => bif Nat.beq l' l then evJump body l n (prune [] env') H' else none
    | r => r
def evM (P : Program) (call : Callee) (T : Tbl) (N : Nat) : Code → Option Nat → Env → Heap → Option (Exit × Env × Heap)
  | .skip, m, env, H => match m with
    | none => some (.normal, env, H)
    | some _ => none
  | .region id ops draw, m, env, H => match m with
    | none => (match evOps P call T ops ops.toList env H [] with
      | some (env', H', ts) => bif !draw || regOk ops ts.reverse then some (.normal, env', H') else none
      | none => none)
    | some _ => none
  | .seq a b, m, env, H => match m with
    | none => (match evM P call T N a none env H with
      | some (.normal, env', H') => evM P call T N b none env' H'
      | r => r)
    | some l => (match findLabel a l with
      | some _ => (match evM P call T N a (some l) env H with
        | some (.normal, env', H') => evM P call T N b none env' H'
        | r => r)
      | none => evM P call T N b (some l) env H)
  | .cond c x y, m, env, H => match m with
    | none => (match opnd env c with
      | some (.v (.bool true)) => evM P call T N x none env H
      | some (.v (.bool false)) => evM P call T N y none env H
      | _ => none)
    | some _ => none
  | .block id c, m, env, H => match m with
    | none => (match evM P call T N c none env H with
      | some (.exit id', env', H') => if id' = id then some (.normal, env', H') else some (.exit id', env', H')
      | r => r)
    | some _ => none
  | .exit id, m, env, H => match m with
    | none => some (.exit id, env, H)
    | some _ => none
  | .ret, m, env, H => match m with
    | none => some (.ret, env, H)
    | some _ => none
  | .label l', m, env, H => match m with
    | none => some (.normal, env, H)
    | some l => bif l' == l then some (.normal, env, H) else none
  | .goto l, m, env, H => match m with
    | none => some (.goto l, env, H)
    | some _ => none
  | .loop c, m, env, H => match m with
    | none => evIter (fun e h => evM P call T N c none e h) N (prune [] env) H
    | some _ => none
  | .scope c, m, env, H => match m with
    | none => (match evM P call T N c none env H with
      | some (.goto l, env', H') => (match findLabel c l with
        | some _ => evJump (fun e h => evM P call T N c (some l) e h) l N (prune [] env') H'
        | none => none)
      | r => r)
    | some _ => none
  | _, _, _, _ => none
def evC (P : Program) (call : Callee) (T : Tbl) (N : Nat) (c : Code) (env : Env) (H : Heap) : Option (Exit × Env × Heap) := evM P call T N c none env H
def resB (T : Tbl) (env : Env) (H : Heap) : List ResultVar → Bool
  | [] => true
  | .tmp t :: r => resB T env H r
  | .cell a ty :: r => match env.lookup a with
    | some (.ptr b off) => match blkAt H b, T ty with
      | some blk, some ti => partB ti blk.cs off && resB T env H r
      | _, _ => false
    | _ => false
theorem resB_ok {T : Tbl} {env : Env} {H : Heap} : ∀ {rs : List ResultVar} {ds : List D} {c : Prop}, resD T env H rs = some (ds, c) → resB T env H rs = true → c
  | [], ds, c, h, hb => by simp only [resD] at h; obtain ⟨_, rfl⟩ := pair_inj h; trivial
  | .tmp t :: r, ds, c, h, hb => by
    simp only [resD] at h
    split at h
    · rename_i h2
      obtain ⟨_, rfl⟩ := pair_inj h
      exact resB_ok h2 (by simpa only [resB] using hb)
    · cases h
  | .cell a ty :: r, ds, c, h, hb => by
    simp only [resD] at h
    split at h
    · rename_i h1 h2
      split at h
      · rename_i h3 h4
        obtain ⟨_, rfl⟩ := pair_inj h
        simp only [resB, h1, h3, h4, Bool.and_eq_true] at hb
        exact ⟨partB_ok hb.1, resB_ok h2 hb.2⟩
      · cases h
    · cases h
def evRes (T : Tbl) (rs : List ResultVar) : Option (Exit × Env × Heap) → Option (D × Heap)
  | some (.normal, env, H) => match resD T env H rs with
    | some (ds, _) => bif resB T env H rs then some (retD ds, H) else none
    | none => none
  | some (.ret, env, H) => match resD T env H rs with
    | some (ds, _) => bif resB T env H rs then some (retD ds, H) else none
    | none => none
  | _ => none
def isScalar (T : Tbl) (t : TypeId) : Bool := match T t with
  | some ⟨.int _, _, _, _⟩ => true
  | some ⟨.bool, _, _, _⟩ => true
  | some ⟨.str, _, _, _⟩ => true
  | _ => false
def lendB (T : Tbl) (fn : Func) (H : Heap) (ds : List D) : Bool := fn.resultTypes.toList.all (isScalar T) && sealLB H ds
def lent (T : Tbl) (rs : List ResultVar) (ds : Option (List D × Prop)) (run : List D → Option (Exit × Env × Heap)) : Option D :=
  match ds with
  | some (ds', _) => match evRes T rs (run ds') with
    | some (d, _) => bif scalarB d && namelessLB ds' then some d else none
    | none => none
  | none => none
def isFlat (T : Tbl) (t : TypeId) : Bool := match T t with
  | some ti => ti.zero.all fun v => match v with
    | .int .. => true
    | .bool .. => true
    | .string .. => true
    | _ => false
  | none => false
def oneRun (T : Tbl) (fn : Func) (H : Heap) (ds : List D) (run : List D → Heap → Option (D × Heap)) : Option (D × Nat × Blk) :=
  match ds with
  | .ptr b off :: plain => (match blkAt H b with
    | some blk => bif fn.resultTypes.toList.all (isFlat T) && (namelessLB plain && namelessLB blk.cs) then
      (match run (.ptr 0 off :: plain) [some blk] with
      | some (d, some blk' :: _) => bif namelessB d && namelessLB blk'.cs then some (d, b, blk') else none
      | _ => none) else none
    | none => none)
  | _ => none
theorem oneRun_some {T : Tbl} {fn : Func} {H : Heap} {ds : List D} {run : List D → Heap → Option (D × Heap)} {d : D} {b : Nat} {blk' : Blk} (h : oneRun T fn H ds run = some (d, b, blk')) :
    ∃ off plain blk r, ds = .ptr b off :: plain ∧ H[b]? = some (some blk) ∧ NamelessL plain ∧ NamelessL blk.cs ∧ run (.ptr 0 off :: plain) [some blk] = some (d, some blk' :: r) ∧ Nameless d ∧ NamelessL blk'.cs := by
  unfold oneRun at h
  split at h
  · rename_i b0 off plain
    split at h
    · rename_i blk hb
      cases hc : (fn.resultTypes.toList.all (isFlat T) && (namelessLB plain && namelessLB blk.cs)) with
      | false => rw [hc] at h; cases h
      | true =>
        rw [hc] at h
        simp only [cond_true] at h
        simp only [Bool.and_eq_true] at hc
        split at h
        · rename_i d0 blk0 r hrun
          cases hc2 : (namelessB d0 && namelessLB blk0.cs) with
          | false => rw [hc2] at h; cases h
          | true =>
            rw [hc2] at h
            simp only [cond_true, Option.some.injEq, Prod.mk.injEq] at h
            obtain ⟨rfl, rfl, rfl⟩ := h
            simp only [Bool.and_eq_true] at hc2
            exact ⟨off, plain, blk, r, rfl, blkAt_some hb, namelessLB_ok _ hc.2.1, namelessLB_ok _ hc.2.2, hrun, namelessB_ok _ hc2.1, namelessLB_ok _ hc2.2⟩
        · cases h
    · cases h
  · cases h
def evF (P : Program) (T : Tbl) (N : Nat) (base : Callee) : Nat → Callee
  | 0, _, _, _ => none
  | n + 1, f, ds, H => match base f ds H with
    | some r => some r
    | none => match P.funcs[f]? with
    | some fn => match fn.body with
      | some c => bif !(fn.name == "runtime.NumGoroutine") && (codeOk fn.ntmps c && decide (ds.length ≤ fn.ntmps)) then
          (bif namelessLB ds then
            (match evRes T fn.results.toList (evC P (evF P T N base n) T N c (envOf 0 ds) []) with
            | some (d, H1) => bif namelessB d then some (d, H, .no) else some (shD H.length d, H ++ shH H.length H1, .mk H.length)
            | none => none)
          else (match (bif lendB T fn H ds then lent T fn.results.toList (sealL H ds) (fun ds' => evC P (evF P T N base n) T N c (envOf 0 ds') []) else none) with
            | some d => some (d, H, .ra)
            | none => match oneRun T fn H ds (fun ds0 H0 => evRes T fn.results.toList (evC P (evF P T N base n) T N c (envOf 0 ds0) H0)) with
              | some (d, b, blk') => some (d, H.set b (some blk'), .wr b)
              | none => match evRes T fn.results.toList (evC P (evF P T N base n) T N c (envOf 0 ds) H) with
                | some (d, H1) => some (d, H1, .al)
                | none => none))
        else none
      | none => none
    | none => none
section
variable {P : Program} {T : Tbl} (hT : TblOk P T) {nt N : Nat} {call : Callee}
def CallOk (P : Program) (call : Callee) : Prop := ∀ g ds H d H' (t : Tch), call g ds H = some (d, H', t) → ∀ K : D → Heap → Tch → Prop, K d H' t → VCall P g ds H K
theorem evOp_ok (hc : CallOk P call) {o : Oper} {env : Env} {H H' : Heap} {d : D} {t : Tch} (h : evOp P call T o env H = some (d, H', t)) {K : D → Heap → Tch → Prop} (hk : K d H' t) : vOp P T o env H K := by
  have rest : (match opP T env o.op with
    | some (d, _) => bif opPB T env o.op then some (d, H, .no) else none
    | none => match opH T env H o.op with
      | some out => bif opHB T env H o.op then some (out.d, out.H, out.touch) else none
      | none => none) = some (d, H', t) → (match opP T env o.op with
    | some (d, c) => c ∧ K d H .no
    | none => match opH T env H o.op with
      | some out => out.c ∧ K out.d out.H out.touch
      | none => False) := by
    intro h
    split at h
    · rename_i d' c' hp
      cases hb : opPB T env o.op with
      | false => simp [hb] at h
      | true =>
        simp only [hb, cond_true, Option.some.injEq, Prod.mk.injEq] at h
        obtain ⟨rfl, rfl, rfl⟩ := h
        exact ⟨opPB_ok hp hb, hk⟩
    · split at h
      · rename_i out ho
        cases hb : opHB T env H o.op with
        | false => simp [hb] at h
        | true =>
          simp only [hb, cond_true, Option.some.injEq, Prod.mk.injEq] at h
          obtain ⟨rfl, rfl, rfl⟩ := h
          exact ⟨opHB_ok ho hb, hk⟩
      · cases h
  unfold vOp
  split
  · rename_i f args ts hop
    simp only [evOp, hop] at h
    split at h
    · rename_i g k caps ds hf ha
      simp only [hf, ha]
      exact hc _ _ _ _ _ _ h K hk
    · cases h
  · rename_i r name args ts hop
    simp only [evOp, hop] at h
    split at h
    · rename_i t d ds hf ha
      split at h
      · rename_i g hm
        simp only [hf, ha, hm]
        exact hc _ _ _ _ _ _ h K hk
      · cases h
    · cases h
  · rename_i hne hne2
    unfold evOp at h
    split at h
    · rename_i hop
      exact absurd hop (hne _ _ _)
    · rename_i hop
      exact absurd hop (hne2 _ _ _ _)
    · exact rest h
theorem evOps_ok (hc : CallOk P call) {ops : Array Oper} : ∀ (l : List Oper) (env : Env) (H : Heap) (ts : List Tch) (env' : Env) (H' : Heap) (ts' : List Tch) (K : Env → Heap → List Tch → Prop),
    evOps P call T ops l env H ts = some (env', H', ts') → K env' H' ts' → vOps P T ops l env H ts K
  | [], env, H, ts, env', H', ts', K, h, hk => by
    simp only [evOps, Option.some.injEq, Prod.mk.injEq] at h
    obtain ⟨rfl, rfl, rfl⟩ := h
    exact hk
  | o :: rest, env, H, ts, env', H', ts', K, h, hk => by
    simp only [evOps] at h
    simp only [vOps]
    split at h
    · rename_i hg
      simp only [hg]
      split at h
      · rename_i d H1 t he
        refine evOp_ok hc he ?_; exact evOps_ok hc rest _ _ _ _ _ _ K h hk
      · cases h
    · rename_i j want hg
      split at h
      · cases h
      · rename_i s hs
        split at h
        · rename_i g hl
          simp only [hg, hs, hl]
          cases hgw : (g == want) with
          | true =>
            have e : g = want := by simpa using hgw
            subst e
            simp only [hgw, cond_true] at h
            refine ⟨fun _ => ?_, fun e => absurd e (by cases g <;> simp)⟩
            split at h
            · rename_i d H1 t he
              refine evOp_ok hc he ?_; exact evOps_ok hc rest _ _ _ _ _ _ K h hk
            · cases h
          | false =>
            simp only [hgw, cond_false] at h
            exact ⟨fun e => absurd e (by simpa using hgw), fun _ => evOps_ok hc rest _ _ _ _ _ _ K h hk⟩
        · rename_i us hl
          simp only [hg, hs, hl]
          split at h
          · rename_i hu
            exact ⟨hu, evOps_ok hc rest _ _ _ _ _ _ K h hk⟩
          · cases h
        · cases h
theorem evIter_ok {c : Code} {body : Env → Heap → Option (Exit × Env × Heap)} (hb : ∀ env H e env' H', body env H = some (e, env', H') → ∀ Q : Exit → Env → Heap → Prop, Q e env' H' → DW P nt c Q env H) {n : Nat} {env : Env} {H : Heap} {e : Exit} {env' : Env} {H' : Heap}
    (h : evIter body n (prune [] env) H = some (e, env', H')) {Q : Exit → Env → Heap → Prop} (hq : Q e env' H') : DW P nt (.loop c) Q env H := by
  refine DW.loop (fun x : Nat × Env × Heap => evIter body x.1 x.2.1 x.2.2 = some (e, env', H')) (fun x => x.2.1) (fun x => x.2.2) (fun x => x.1) (n, prune [] env, H) h (has_prune env) rfl ?_
  rintro ⟨m, en, hp⟩ hx
  simp only at hx ⊢
  cases m with
  | zero => simp [evIter] at hx
  | succ m =>
    simp only [evIter] at hx
    split at hx
    · rename_i env1 H1 h1
      exact hb _ _ _ _ _ h1 _ ⟨(m, prune [] env1, H1), by simp, hx, has_prune env1, rfl⟩
    · rename_i hne
      cases e with
      | normal => exact absurd hx (fun h => hne _ _ h)
      | _ => exact hb _ _ _ _ _ hx _ hq
include hT
mutual
theorem evM_ok (hm : P.follows .mixedOrders = true) (hc : CallOk P call) : ∀ (c : Code) (env : Env) (H : Heap) (e : Exit) (env' : Env) (H' : Heap), codeOk nt c = true → evM P call T N c none env H = some (e, env', H') →
    ∀ Q : Exit → Env → Heap → Prop, Q e env' H' → DW P nt c Q env H
  | .skip, env, H, e, env', H', ho, h, Q, hq => by
    simp only [evM, Option.some.injEq, Prod.mk.injEq] at h
    obtain ⟨rfl, rfl, rfl⟩ := h
    exact vcg_sound hT hm .skip Q _ _ ho hq
  | .region id ops draw, env, H, e, env', H', ho, h, Q, hq => by
    simp only [evM] at h
    split at h
    · rename_i env1 H1 ts h1
      cases hb : (!draw || regOk ops ts.reverse) with
      | false => simp [hb] at h
      | true =>
        simp only [hb, cond_true, Option.some.injEq, Prod.mk.injEq] at h
        obtain ⟨rfl, rfl, rfl⟩ := h
        refine vcg_sound hT hm (.region id ops draw) Q _ _ ho ?_
        exact evOps_ok hc _ _ _ _ _ _ _ _ h1 ⟨fun hd => by simpa [hd] using hb, hq⟩
    · cases h
  | .seq a b, env, H, e, env', H', ho, h, Q, hq => by
    simp only [codeOk, Bool.and_eq_true] at ho
    simp only [evM] at h
    intro ρ S w ac hi
    split at h
    · rename_i env1 H1 h1
      refine wp_seq (wp_mono (evM_ok hm hc a env H _ _ _ ho.1 h1 (fun e1 en1 hh1 => e1 = .normal ∧ DW P nt b Q en1 hh1) ⟨rfl, evM_ok hm hc b env1 H1 _ _ _ ho.2 h Q hq⟩ ρ S w ac hi) ?_)
      rintro e1 a1 w1 ⟨en, hh, ρ1, S1, ⟨rfl, hd⟩, hi1, hle⟩
      refine wp_mono (hd ρ1 S1 w1 a1 hi1) ?_
      rintro e2 a2 w2 ⟨en2, hh2, ρ2, S2, h4, h5, h6⟩
      exact ⟨en2, hh2, ρ2, S2, h4, h5, hle.trans h6⟩
    · rename_i hne
      refine wp_seq (wp_mono (evM_ok hm hc a env H _ _ _ ho.1 h (fun e1 en1 hh1 => e1 ≠ .normal ∧ Q e1 en1 hh1) ⟨fun he => by subst he; exact hne _ _ h, hq⟩ ρ S w ac hi) ?_)
      rintro e1 a1 w1 ⟨en, hh, ρ1, S1, ⟨hn, hd⟩, hi1, hle⟩
      cases e1 with
      | normal => exact absurd rfl hn
      | _ => exact ⟨en, hh, ρ1, S1, hd, hi1, hle⟩
  | .cond c x y, env, H, e, env', H', ho, h, Q, hq => by
    simp only [codeOk, Bool.and_eq_true] at ho
    simp only [evM] at h
    intro ρ S w ac hi
    split at h
    · rename_i hb
      have hv := get_rd hi.st.glob hi.env c _ hb
      simp only [Rd] at hv
      exact wp_cond hv (evM_ok hm hc x env H _ _ _ ho.1 h Q hq ρ S w ac hi)
    · rename_i hb
      have hv := get_rd hi.st.glob hi.env c _ hb
      simp only [Rd] at hv
      exact wp_cond hv (evM_ok hm hc y env H _ _ _ ho.2 h Q hq ρ S w ac hi)
    · cases h
  | .block id c, env, H, e, env', H', ho, h, Q, hq => by
    simp only [codeOk] at ho
    simp only [evM] at h
    intro ρ S w ac hi
    split at h
    · rename_i id' env1 H1 h1
      refine wp_block (wp_mono (evM_ok hm hc c env H _ _ _ ho h1 (fun e1 en1 hh1 => e1 = .exit id' ∧ en1 = env1 ∧ hh1 = H1) ⟨rfl, rfl, rfl⟩ ρ S w ac hi) ?_)
      rintro e1 a1 w1 ⟨en, hh, ρ1, S1, ⟨rfl, rfl, rfl⟩, hi1, hle⟩
      simp only [Exit.inBlock]
      split at h
      · rename_i he
        simp only [Option.some.injEq, Prod.mk.injEq] at h
        obtain ⟨rfl, rfl, rfl⟩ := h
        rw [if_pos he]; exact ⟨_, _, ρ1, S1, hq, hi1, hle⟩
      · rename_i he
        simp only [Option.some.injEq, Prod.mk.injEq] at h
        obtain ⟨rfl, rfl, rfl⟩ := h
        rw [if_neg he]; exact ⟨_, _, ρ1, S1, hq, hi1, hle⟩
    · rename_i hne
      refine wp_block (wp_mono (evM_ok hm hc c env H _ _ _ ho h (fun e1 en1 hh1 => e1 = e ∧ en1 = env' ∧ hh1 = H') ⟨rfl, rfl, rfl⟩ ρ S w ac hi) ?_)
      rintro e1 a1 w1 ⟨en, hh, ρ1, S1, ⟨rfl, rfl, rfl⟩, hi1, hle⟩
      cases e1 with
      | exit id' => exact absurd h (fun h => hne _ _ _ h)
      | _ => exact ⟨_, _, ρ1, S1, hq, hi1, hle⟩
  | .exit id, env, H, e, env', H', ho, h, Q, hq => by
    simp only [evM, Option.some.injEq, Prod.mk.injEq] at h
    obtain ⟨rfl, rfl, rfl⟩ := h
    exact vcg_sound hT hm (.exit id) Q _ _ ho hq
  | .ret, env, H, e, env', H', ho, h, Q, hq => by
    simp only [evM, Option.some.injEq, Prod.mk.injEq] at h
    obtain ⟨rfl, rfl, rfl⟩ := h
    exact vcg_sound hT hm .ret Q _ _ ho hq
  | .label l, env, H, e, env', H', ho, h, Q, hq => by
    simp only [evM, Option.some.injEq, Prod.mk.injEq] at h
    obtain ⟨rfl, rfl, rfl⟩ := h
    exact vcg_sound hT hm (.label l) Q _ _ ho hq
  | .goto l, env, H, e, env', H', ho, h, Q, hq => by
    simp only [evM, Option.some.injEq, Prod.mk.injEq] at h
    obtain ⟨rfl, rfl, rfl⟩ := h
    exact vcg_sound hT hm (.goto l) Q _ _ ho hq
  | .loop c, env, H, e, env', H', ho, h, Q, hq => by
    simp only [codeOk] at ho
    simp only [evM] at h
    exact evIter_ok (fun env H e env' H' hb Q hq => evM_ok hm hc c env H e env' H' ho hb Q hq) h hq
  | .refuse .., env, H, e, env', H', ho, h, Q, hq => by simp [evM] at h
  | .scope c, env, H, e, env', H', ho, h, Q, hq => by
    simp only [codeOk] at ho
    simp only [evM] at h
    split at h
    · rename_i l env1 H1 h1
      split at h
      · rename_i rest hf
        refine DW.scopeJump (fun x : Nat × Env × Heap => evJump (fun e h => evM P call T N c (some l) e h) l x.1 x.2.1 x.2.2 = some (e, env', H')) (fun x => x.2.1) (fun x => x.2.2) (fun x => x.1) hf
          (evM_ok hm hc c env H _ _ _ ho h1 _ ⟨rfl, (N, prune [] env1, H1), h, has_prune env1, rfl⟩) ?_
        rintro ⟨m, en, hp⟩ hx
        simp only at hx ⊢
        cases m with
        | zero => simp [evJump] at hx
        | succ m =>
          simp only [evJump] at hx
          split at hx
          · rename_i l' env2 H2 h2
            cases hb : Nat.beq l' l with
            | false => rw [hb] at hx; cases hx
            | true =>
              rw [hb] at hx
              exact evL_ok hm hc c l rest hf _ _ _ _ _ ho h2 _ ⟨Nat.eq_of_beq_eq_true hb, (m, prune [] env2, H2), by simp, hx, has_prune env2, rfl⟩
          · rename_i hne
            cases e with
            | goto l' => exact absurd hx (fun h => hne _ _ _ h)
            | _ => exact evL_ok hm hc c l rest hf _ _ _ _ _ ho hx _ hq
      · cases h
    · rename_i hne
      intro ρ S w ac hi
      refine wp_scope_straight (wp_mono (evM_ok hm hc c env H _ _ _ ho h (fun e1 en1 hh1 => e1 = e ∧ en1 = env' ∧ hh1 = H') ⟨rfl, rfl, rfl⟩ ρ S w ac hi) ?_)
      rintro e1 a1 w1 ⟨en, hh, ρ1, S1, ⟨rfl, rfl, rfl⟩, hi1, hle⟩
      cases e1 with
      | goto l => exact absurd h (fun h => hne _ _ _ h)
      | _ => exact ⟨_, _, ρ1, S1, hq, hi1, hle⟩
  | .rangeFunc .., env, H, e, env', H', ho, h, Q, hq => by simp [evM] at h
theorem evL_ok (hm : P.follows .mixedOrders = true) (hc : CallOk P call) : ∀ (c : Code) (l : Nat) (rest : Code), findLabel c l = some rest → ∀ (env : Env) (H : Heap) (e : Exit) (env' : Env) (H' : Heap), codeOk nt c = true → evM P call T N c (some l) env H = some (e, env', H') →
    ∀ Q : Exit → Env → Heap → Prop, Q e env' H' → DW P nt rest Q env H
  | .seq a b, l, rest, hf, env, H, e, env', H', ho, h, Q, hq => by
    simp only [codeOk, Bool.and_eq_true] at ho
    simp only [evM] at h
    simp only [findLabel] at hf
    split at h
    · rename_i ra hra
      rw [hra] at hf
      injection hf with hf; subst hf
      intro ρ S w ac hi
      split at h
      · rename_i env1 H1 h1
        refine wp_seq (wp_mono (evL_ok hm hc a l ra hra env H _ _ _ ho.1 h1 (fun e1 en1 hh1 => e1 = .normal ∧ DW P nt b Q en1 hh1) ⟨rfl, evM_ok hm hc b env1 H1 _ _ _ ho.2 h Q hq⟩ ρ S w ac hi) ?_)
        rintro e1 a1 w1 ⟨en, hh, ρ1, S1, ⟨rfl, hd⟩, hi1, hle⟩
        refine wp_mono (hd ρ1 S1 w1 a1 hi1) ?_
        rintro e2 a2 w2 ⟨en2, hh2, ρ2, S2, h4, h5, h6⟩
        exact ⟨en2, hh2, ρ2, S2, h4, h5, hle.trans h6⟩
      · rename_i hne
        refine wp_seq (wp_mono (evL_ok hm hc a l ra hra env H _ _ _ ho.1 h (fun e1 en1 hh1 => e1 ≠ .normal ∧ Q e1 en1 hh1) ⟨fun he => by subst he; exact hne _ _ h, hq⟩ ρ S w ac hi) ?_)
        rintro e1 a1 w1 ⟨en, hh, ρ1, S1, ⟨hn, hd⟩, hi1, hle⟩
        cases e1 with
        | normal => exact absurd rfl hn
        | _ => exact ⟨en, hh, ρ1, S1, hd, hi1, hle⟩
    · rename_i hra
      rw [hra] at hf
      exact evL_ok hm hc b l rest hf env H _ _ _ ho.2 h Q hq
  | .label l', l, rest, hf, env, H, e, env', H', ho, h, Q, hq => by
    simp only [findLabel] at hf
    simp only [evM] at h
    cases hb : (l' == l) with
    | false => rw [hb] at h; cases h
    | true =>
      rw [hb] at h hf
      simp only [if_true, Option.some.injEq] at hf
      subst hf
      simp only [cond_true, Option.some.injEq, Prod.mk.injEq] at h
      obtain ⟨rfl, rfl, rfl⟩ := h
      exact vcg_sound hT hm .skip Q _ _ rfl hq
  | .skip, l, rest, hf, _, _, _, _, _, _, _, _, _ => by simp [findLabel] at hf
  | .region .., l, rest, hf, _, _, _, _, _, _, _, _, _ => by simp [findLabel] at hf
  | .cond .., l, rest, hf, _, _, _, _, _, _, _, _, _ => by simp [findLabel] at hf
  | .block .., l, rest, hf, _, _, _, _, _, _, _, _, _ => by simp [findLabel] at hf
  | .exit .., l, rest, hf, _, _, _, _, _, _, _, _, _ => by simp [findLabel] at hf
  | .ret, l, rest, hf, _, _, _, _, _, _, _, _, _ => by simp [findLabel] at hf
  | .goto .., l, rest, hf, _, _, _, _, _, _, _, _, _ => by simp [findLabel] at hf
  | .loop .., l, rest, hf, _, _, _, _, _, _, _, _, _ => by simp [findLabel] at hf
  | .scope .., l, rest, hf, _, _, _, _, _, _, _, _, _ => by simp [findLabel] at hf
  | .refuse .., l, rest, hf, _, _, _, _, _, _, _, _, _ => by simp [findLabel] at hf
  | .rangeFunc .., l, rest, hf, _, _, _, _, _, _, _, _, _ => by simp [findLabel] at hf
end
theorem evC_ok (hm : P.follows .mixedOrders = true) (hc : CallOk P call) : ∀ (c : Code) (env : Env) (H : Heap) (e : Exit) (env' : Env) (H' : Heap), codeOk nt c = true → evC P call T N c env H = some (e, env', H') →
    ∀ Q : Exit → Env → Heap → Prop, Q e env' H' → DW P nt c Q env H := evM_ok hT hm hc
omit hT
include hT in
theorem evF_ok (hm : P.follows .mixedOrders = true) {base : Callee} (hbase : CallOk P base) : ∀ n, CallOk P (evF P T N base n)
  | 0, g, ds, H, d, H', t, h, K, hk => by simp [evF] at h
  | n + 1, g, ds, H, d, H', t, h, K, hk => by
    simp only [evF] at h
    split at h
    · rename_i r hr
      injection h with h; subst h
      exact hbase _ _ _ _ _ _ hr K hk
    split at h
    · rename_i fn hf
      split at h
      · rename_i c hb
        cases hck : (!(fn.name == "runtime.NumGoroutine") && (codeOk fn.ntmps c && decide (ds.length ≤ fn.ntmps))) with
        | false => simp [hck] at h
        | true =>
          simp only [hck, cond_true] at h
          simp only [Bool.and_eq_true, Bool.not_eq_true', decide_eq_true_eq] at hck
          obtain ⟨hname, hok, hlen⟩ := hck
          have main : ∀ (ds : List D) (H0 : Heap) (d1 : D) (H1 : Heap), ds.length ≤ fn.ntmps → evRes T fn.results.toList (evC P (evF P T N base n) T N c (envOf 0 ds) H0) = some (d1, H1) → ∀ (d2 : D) (H2 : Heap), Fin ds H0 d1 H1 d2 H2 → CallJ P g ds H0 d2 H2 := by
            intro ds H0 d1 H1 hlen he d2 H2 hfin
            refine callJ_of_dw hT hf hb hname hlen ?_
            cases hev : evC P (evF P T N base n) T N c (envOf 0 ds) H0 with
            | none => simp [hev, evRes] at he
            | some r =>
              obtain ⟨e, env', H'⟩ := r
              refine evC_ok hT hm (evF_ok hm hbase n) c _ _ _ _ _ hok hev _ ?_
              rw [hev] at he
              have fin : (match resD T env' H' fn.results.toList with
                  | some (ds, _) => bif resB T env' H' fn.results.toList then some (retD ds, H') else none
                  | none => none) = some (d1, H1) → (match resD T env' H' fn.results.toList with | some (ds', c) => c ∧ Fin ds H0 (retD ds') H' d2 H2 | none => False) := by
                intro h
                split at h
                · rename_i ds' c' hr
                  cases hrb : resB T env' H' fn.results.toList with
                  | false => simp [hrb] at h
                  | true =>
                    simp only [hrb, cond_true, Option.some.injEq, Prod.mk.injEq] at h
                    obtain ⟨rfl, rfl⟩ := h
                    exact ⟨resB_ok hr hrb, hfin⟩
                · cases h
              cases e with
              | normal => exact fin he
              | ret => exact fin he
              | _ => simp [evRes] at he
          cases hn : namelessLB ds with
          | true =>
            simp only [hn, cond_true] at h
            split at h
            · rename_i d1 H1 he
              cases hnd : namelessB d1 with
              | true =>
                simp only [hnd, cond_true, Option.some.injEq, Prod.mk.injEq] at h
                obtain ⟨rfl, rfl, rfl⟩ := h
                exact .pure _ (PureJ.of_nil (namelessLB_ok _ hn) (namelessB_ok _ hnd) (main ds [] _ _ hlen he _ _ (fin_drop (namelessB_ok _ hnd)))) hk
              | false =>
                simp only [hnd, cond_false, Option.some.injEq, Prod.mk.injEq] at h
                obtain ⟨rfl, rfl, rfl⟩ := h
                exact .makes _ _ (fun H1 e => by rw [← e]; exact (main ds [] _ _ hlen he _ _ fin_same).frame (namelessLB_ok _ hn) H1) hk
            · cases h
          | false =>
            simp only [hn, cond_false] at h
            split at h
            · rename_i d1 hl
              simp only [Option.some.injEq, Prod.mk.injEq] at h
              obtain ⟨rfl, rfl, rfl⟩ := h
              cases hck : lendB T fn H ds with
              | false => simp [hck] at hl
              | true =>
                simp only [hck, cond_true] at hl
                simp only [lendB, Bool.and_eq_true] at hck
                unfold lent at hl
                split at hl
                · rename_i ds' c' hs
                  split at hl
                  · rename_i d0 H1 he
                    cases hsc : (scalarB d0 && namelessLB ds') with
                    | false => simp [hsc] at hl
                    | true =>
                      simp only [hsc, cond_true, Option.some.injEq] at hl
                      subst hl
                      simp only [Bool.and_eq_true] at hsc
                      have hl' : ds'.length ≤ fn.ntmps := by rw [sealL_length hs]; exact hlen
                      have hnd : Nameless d0 := scalarB_nameless hsc.1
                      exact .reads _ ((PureJ.of_nil (namelessLB_ok _ hsc.2) hnd (main ds' [] _ _ hl' he _ _ (fin_drop hnd))).borrow hs (sealLB_ok _ _ _ hs hck.2) hsc.1) hk
                  · cases hl
                · cases hl
            · split at h
              · rename_i d1 b1 blk1 hone
                simp only [Option.some.injEq, Prod.mk.injEq] at h
                obtain ⟨rfl, rfl, rfl⟩ := h
                obtain ⟨off, plain, blk, r, rfl, hb1, hpl, hcs, hrun, hnd, hcs'⟩ := oneRun_some hone
                have hc1 : CallJ P g (.ptr 0 off :: plain) [some blk] d1 [some blk1] := main (.ptr 0 off :: plain) [some blk] d1 _ hlen hrun _ _ (fin_head rfl hnd hcs')
                exact .writes _ b1 _ (fun H1 e => hc1.framePtr hpl hnd hcs hcs' (by rw [e]; exact hb1)) hk
              · split at h
                · rename_i d1 H1 he
                  simp only [Option.some.injEq, Prod.mk.injEq] at h
                  obtain ⟨rfl, rfl, rfl⟩ := h
                  exact .own _ _ (main ds H _ _ hlen he _ _ fin_same) hk
                · cases h
      · cases h
    · cases h
include hT in
theorem evF_main (hm : P.follows .mixedOrders = true) {base : Callee} (hbase : CallOk P base) {n : Nat} {g : FuncId} {fn : Func} {c : Code} (hf : P.funcs[g]? = some fn) (hb : fn.body = some c) (hname : (fn.name == "runtime.NumGoroutine") = false) (hok : codeOk fn.ntmps c = true) :
    ∀ (ds : List D) (H0 : Heap) (d1 : D) (H1 : Heap), ds.length ≤ fn.ntmps → evRes T fn.results.toList (evC P (evF P T N base n) T N c (envOf 0 ds) H0) = some (d1, H1) → ∀ (d2 : D) (H2 : Heap), Fin ds H0 d1 H1 d2 H2 → CallJ P g ds H0 d2 H2 := by
  intro ds H0 d1 H1 hlen he d2 H2 hfin
  refine callJ_of_dw hT hf hb hname hlen ?_
  cases hev : evC P (evF P T N base n) T N c (envOf 0 ds) H0 with
  | none => simp [hev, evRes] at he
  | some r =>
    obtain ⟨e, env', H'⟩ := r
    refine evC_ok hT hm (evF_ok hT hm hbase n) c _ _ _ _ _ hok hev _ ?_
    rw [hev] at he
    have fin : (match resD T env' H' fn.results.toList with
        | some (ds, _) => bif resB T env' H' fn.results.toList then some (retD ds, H') else none
        | none => none) = some (d1, H1) → (match resD T env' H' fn.results.toList with | some (ds', c) => c ∧ Fin ds H0 (retD ds') H' d2 H2 | none => False) := by
      intro h
      split at h
      · rename_i ds' c' hr
        cases hrb : resB T env' H' fn.results.toList with
        | false => simp [hrb] at h
        | true =>
          simp only [hrb, cond_true, Option.some.injEq, Prod.mk.injEq] at h
          obtain ⟨rfl, rfl⟩ := h
          exact ⟨resB_ok hr hrb, hfin⟩
      · cases h
    cases e with
    | normal => exact fin he
    | ret => exact fin he
    | _ => simp [evRes] at he
def evTop (P : Program) (T : Tbl) (N : Nat) (base : Callee) (n : Nat) (fn : Func) (c : Code) (ds : List D) : Option D :=
  bif !(fn.name == "runtime.NumGoroutine") && (codeOk fn.ntmps c && (decide (ds.length ≤ fn.ntmps) && namelessLB ds)) then
    (match evRes T fn.results.toList (evC P (evF P T N base n) T N c (envOf 0 ds) []) with
    | some (d, H1) => bif namelessB d then some d else none
    | none => none)
  else none
include hT in
theorem pure_of_ev (hm : P.follows .mixedOrders = true) {base : Callee} (hbase : CallOk P base) {n : Nat} {f : FuncId} {fn : Func} {c : Code} {ds : List D} {d : D} (hf : P.funcs[f]? = some fn) (hb : fn.body = some c) (h : evTop P T N base n fn c ds = some d) : PureJ P f ds d := by
  unfold evTop at h
  cases hck : (!(fn.name == "runtime.NumGoroutine") && (codeOk fn.ntmps c && (decide (ds.length ≤ fn.ntmps) && namelessLB ds))) with
  | false => simp [hck] at h
  | true =>
    simp only [hck, cond_true] at h
    simp only [Bool.and_eq_true, Bool.not_eq_true', decide_eq_true_eq] at hck
    obtain ⟨hname, hok, hlen, hn⟩ := hck
    split at h
    · rename_i d1 H1 he
      cases hnd : namelessB d1 with
      | false => rw [hnd] at h; cases h
      | true =>
        rw [hnd] at h
        injection h with h; subst h
        exact PureJ.of_nil (namelessLB_ok _ hn) (namelessB_ok _ hnd) (evF_main hT hm hbase hf hb hname hok ds [] _ _ hlen he _ _ (fin_drop (namelessB_ok _ hnd)))
    · cases h
theorem callOk_none : CallOk P (fun _ _ _ => none) := fun g ds H d H' t h => by cases h
end
end Go.VD
end
