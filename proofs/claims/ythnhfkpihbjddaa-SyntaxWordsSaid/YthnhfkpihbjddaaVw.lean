/- What a call makes of nothing, it makes over other blocks too: the frame. -/
import Derived.Test.YthnhfkpihbjddaaVv
namespace Go.VD
set_option linter.unusedVariables false
set_option linter.unusedSimpArgs false

mutual
def shD (k : Nat) : D → D
  | .v x => .v x
  | .ro n xs => .ro n xs
  | .rp xs j => .rp xs j
  | .sl b off n c => .sl (b + k) off n c
  | .ptr b off => .ptr (b + k) off
  | .agg xs => .agg (shL k xs)
  | .tup xs => .tup (shL k xs)
  | .ifc t d => .ifc t (shD k d)
  | .fn f j caps => .fn f j (shL k caps)
def shL (k : Nat) : List D → List D
  | [] => []
  | d :: ds => shD k d :: shL k ds
end
theorem shL_length (k : Nat) : ∀ ds, (shL k ds).length = ds.length
  | [] => rfl
  | d :: ds => by simp [shL, shL_length k ds]
def shB (k : Nat) (b : Blk) : Blk := ⟨b.ty, shL k b.cs, b.full⟩
theorem Row.sh {k : Nat} {o : Option Obj} {blk : Blk} {cur : Array Value} (h : Row o blk cur) : Row o (shB k blk) cur := by
  rcases h with h | ⟨s, n, rfl, h2, h3, h4⟩
  · exact .inl h
  · exact .inr ⟨s, n, by simp [shB, shL, shD], h2, h3, h4⟩
def shO (k : Nat) : Option Blk → Option Blk
  | some b => some (shB k b)
  | none => none
def shH (k : Nat) (H : Heap) : Heap := H.map (shO k)

section
variable {ρ ρ' : Nat → Nat × Nat} {S S' : Nat → Prop} {w : World} {H H' : Heap} {k : Nat}
mutual
theorem Rd.shift (hS : ∀ x, S x → S' x) (hb : ∀ b, b < H.length → b + k < H'.length ∧ ρ' (b + k) = ρ b) : ∀ (d : D) (u : Value), Rd (ctx ρ S w H) d u → Rd (ctx ρ' S' w H') (shD k d) u
  | .v x, u, hr => by simpa only [Rd, shD] using hr
  | .ro n xs, u, hr => by
    have hn : NamelessL xs := by simp only [Rd] at hr; exact hr.1
    simp only [shD]; exact Rd.moveS hS (by simpa [Nameless] using hn) hr
  | .rp xs j, u, hr => by
    have hn : NamelessL xs := by simp only [Rd] at hr; exact hr.1
    simp only [shD]; exact Rd.moveS hS (by simpa [Nameless] using hn) hr
  | .sl b off n (.exact c _), u, hr => by
    simp only [Rd, shD] at hr ⊢
    obtain ⟨h0, h1, h2, A, h3, h4⟩ := hr
    exact ⟨(hb b h0).1, h1, h2, A, h3, by rw [(hb b h0).2]; exact h4⟩
  | .sl b off n (.toEnd es), u, hr => by
    simp only [Rd, shD] at hr ⊢
    obtain ⟨h0, A, c, h3, h1, h2, h4, h5⟩ := hr
    exact ⟨(hb b h0).1, A, c, h3, h1, h2, by rw [(hb b h0).2]; exact h4, by rw [(hb b h0).2]; exact h5⟩
  | .ptr b off, u, hr => by
    simp only [Rd, shD] at hr ⊢
    exact ⟨(hb b hr.1).1, by rw [(hb b hr.1).2]; exact hr.2⟩
  | .agg xs, u, hr => by
    simp only [Rd, shD] at hr ⊢
    obtain ⟨us, hu, hr⟩ := hr
    exact ⟨us, hu, RdL.shift hS hb xs us.toList hr⟩
  | .tup xs, u, hr => by
    simp only [Rd, shD] at hr ⊢
    obtain ⟨us, hu, hr⟩ := hr
    exact ⟨us, hu, RdT.shift hS hb xs us.toList hr⟩
  | .ifc t d, u, hr => by
    simp only [Rd, shD] at hr ⊢
    obtain ⟨x, hu, hr⟩ := hr
    exact ⟨x, hu, Rd.shift hS hb d x hr⟩
  | .fn f j caps, u, hr => by
    simp only [Rd, shD] at hr ⊢
    obtain ⟨fs, us, hu, hj, hr⟩ := hr
    exact ⟨fs, us, hu, hj, RdT.shift hS hb caps _ hr⟩
theorem RdL.shift (hS : ∀ x, S x → S' x) (hb : ∀ b, b < H.length → b + k < H'.length ∧ ρ' (b + k) = ρ b) : ∀ (ds : List D) (us : List Value), RdL (ctx ρ S w H) ds us → RdL (ctx ρ' S' w H') (shL k ds) us
  | [], us, hr => by simpa only [RdL, shL] using hr
  | d :: ds, us, hr => by
    simp only [RdL, shL] at hr ⊢
    obtain ⟨u, r, hu, ho, hd, hr⟩ := hr
    exact ⟨u, r, hu, ho, Rd.shift hS hb d u hd, RdL.shift hS hb ds r hr⟩
theorem RdT.shift (hS : ∀ x, S x → S' x) (hb : ∀ b, b < H.length → b + k < H'.length ∧ ρ' (b + k) = ρ b) : ∀ (ds : List D) (us : List Value), RdT (ctx ρ S w H) ds us → RdT (ctx ρ' S' w H') (shL k ds) us
  | [], us, hr => by simpa only [RdT, shL] using hr
  | d :: ds, us, hr => by
    simp only [RdT, shL] at hr ⊢
    obtain ⟨u, r, hu, hd, hr⟩ := hr
    exact ⟨u, r, hu, Rd.shift hS hb d u hd, RdT.shift hS hb ds r hr⟩
end
end

theorem shH_get {k : Nat} {H : Heap} {b : Nat} {blk : Blk} (h : (shH k H)[b]? = some (some blk)) : ∃ blk0, H[b]? = some (some blk0) ∧ blk = shB k blk0 := by
  simp only [shH, List.getElem?_map] at h
  cases hb : H[b]? with
  | none => simp [hb] at h
  | some o =>
    simp only [hb, Option.map_some, Option.some.injEq] at h
    cases o with
    | none => simp [shO] at h
    | some blk0 => exact ⟨blk0, rfl, by simpa [shO] using h.symm⟩

theorem CallJ.frame {P : Program} {f : FuncId} {ds : List D} {d : D} {H1 : Heap} (h : CallJ P f ds [] d H1) (hn : NamelessL ds) (H : Heap) : CallJ P f ds H (shD H.length d) (H ++ shH H.length H1) := by
  refine ⟨h.1, fun ρ S w vals hS hv => ?_⟩
  have hsub : ∀ k, S k → k < w.heap.size := fun k hk => (hS.sub k hk).1
  refine (h.2 ρ S w vals (St.nil _ hsub hS.glob) (RdT.move hn hv)).mono fun e w' ⟨v, ρ1, S1, he, hS1, hle, hd⟩ => ?_
  have nl : ∀ k, ¬ Live ρ [] k := fun k ⟨b, blk, hb, _⟩ => by simp at hb
  have new : ∀ k, Live ρ1 H1 k → w.heap.size ≤ k := fun k hk => by
    rcases Nat.lt_or_ge k w.heap.size with h | h
    · exact absurd hk (hle.fix k ⟨h, nl k⟩).2
    · exact h
  let ρ2 : Nat → Nat × Nat := fun b => if b < H.length then ρ b else ρ1 (b - H.length)
  have e1 : ∀ b, b < H.length → ρ2 b = ρ b := fun b hb => if_pos hb
  have e2 : ∀ b, ρ2 (b + H.length) = ρ1 b := fun b => by
    show (if _ then _ else _) = _
    rw [if_neg (by omega)]; congr 1; omega
  have split : ∀ b blk, (H ++ shH H.length H1)[b]? = some (some blk) → (b < H.length ∧ H[b]? = some (some blk)) ∨ (∃ c blk0, b = c + H.length ∧ H1[c]? = some (some blk0) ∧ blk = shB H.length blk0) := by
    intro b blk hb
    rcases Nat.lt_or_ge b H.length with hlt | hge
    · rw [List.getElem?_append_left hlt] at hb; exact .inl ⟨hlt, hb⟩
    · rw [List.getElem?_append_right hge] at hb
      obtain ⟨blk0, h1, h2⟩ := shH_get hb
      exact .inr ⟨b - H.length, blk0, by omega, h1, h2⟩
  have live : ∀ k, Live ρ2 (H ++ shH H.length H1) k → Live ρ H k ∨ Live ρ1 H1 k := by
    rintro k ⟨b, blk, hb, hz, hk⟩
    rcases split b blk hb with ⟨h1, h2⟩ | ⟨c, blk0, rfl, h2, h3⟩
    · rw [e1 b h1] at hz hk; exact .inl ⟨b, blk, h2, hz, hk⟩
    · rw [e2] at hz hk; exact .inr ⟨c, blk0, h2, hz, hk⟩
  have hlen : (H ++ shH H.length H1).length = H.length + H1.length := by simp [shH]
  have hle2 : (ctx ρ S w H).le (ctx ρ2 S1 w' (H ++ shH H.length H1)) :=
    ⟨by simp [shH], e1, hle.S, hle.keep, fun k hk => by
      rcases hle.new k hk with h | h | h
      · exact .inl h
      · exact absurd h (nl k)
      · exact .inr (.inr h),
    fun k hk => ⟨Nat.lt_of_lt_of_le hk.1 hle.size, fun hl => by
      rcases live k hl with h | h
      · exact hk.2 h
      · have := new k h; have := hk.1; simp only [ctx] at *; omega⟩,
    fun k hk => hle.heap k ⟨hk.1, nl k⟩, hle.size, hle.os, hle.tape, hle.output⟩
  have hsh : ∀ b, b < H1.length → b + H.length < (H ++ shH H.length H1).length ∧ ρ2 (b + H.length) = ρ1 b := fun b hb => ⟨by rw [hlen]; omega, e2 b⟩
  refine ⟨v, ρ2, S1, he, ⟨fun k hk => ⟨(hS1.sub k hk).1, fun hl => ?_⟩, ?_, ?_, ?_, hS1.glob⟩, hle2, Rd.shift (fun _ h => h) hsh d v hd⟩
  · rcases live k hl with h | h
    · rcases hle.new k hk with h2 | h2 | h2
      · exact (hS.sub k h2).2 h
      · exact nl k h2
      · have := hS.lt h; simp only [ctx] at *; omega
    · exact (hS1.sub k hk).2 h
  · intro b blk hb hz
    rcases split b blk hb with ⟨h1, h2⟩ | ⟨c, blk0, rfl, h2, rfl⟩
    · rw [e1 b h1] at hz; exact hS.none b blk h2 hz
    · rw [e2] at hz
      have := hS1.none c blk0 h2 hz
      simp [shB, this, shL]
  · intro b blk hb hz
    rcases split b blk hb with ⟨h1, h2⟩ | ⟨c, blk0, rfl, h2, rfl⟩
    · rw [e1 b h1] at hz ⊢
      obtain ⟨cur, hc⟩ := hS.blk b blk h2 hz
      exact ⟨cur, hc.heap.of (hle.heap _ ⟨hc.lt, nl _⟩), hc.size, hc.pre.mono hle2 _ _, hc.full⟩
    · rw [e2] at hz ⊢
      obtain ⟨cur, hc⟩ := hS1.blk c blk0 h2 hz
      refine ⟨cur, hc.heap.sh, hc.size, ?_, fun hf => ?_⟩
      · have := RdL.shift (S' := S1) (fun _ h => h) hsh blk0.cs _ hc.pre
        simpa [shB, shL_length] using this
      · have := hc.full (by simpa [shB] using hf)
        simpa [shB, shL_length] using this
  · intro b b' blk blk' hb hb' hz hz' hk
    rcases split b blk hb with ⟨h1, h2⟩ | ⟨c, blk0, rfl, h2, rfl⟩ <;> rcases split b' blk' hb' with ⟨h1', h2'⟩ | ⟨c', blk0', rfl, h2', rfl⟩
    · rw [e1 b h1] at hz hk; rw [e1 b' h1'] at hz' hk
      exact hS.inj b b' blk blk' h2 h2' hz hz' hk
    · rw [e1 b h1] at hz hk; rw [e2] at hz' hk
      have := new _ ⟨c', blk0', h2', hz', rfl⟩
      have := hS.lt ⟨b, blk, h2, hz, rfl⟩
      omega
    · rw [e2] at hz hk; rw [e1 b' h1'] at hz' hk
      have := new _ ⟨c, blk0, h2, hz, rfl⟩
      have := hS.lt ⟨b', blk', h2', hz', rfl⟩
      omega
    · rw [e2] at hz hk; rw [e2] at hz' hk
      have := hS1.inj c c' blk0 blk0' h2 h2' hz hz' hk
      omega

mutual
def namelessB : D → Bool
  | .v _ => true
  | .ro _ xs => namelessLB xs
  | .rp xs _ => namelessLB xs
  | .sl .. => false
  | .ptr .. => false
  | .agg xs => namelessLB xs
  | .tup xs => namelessLB xs
  | .ifc _ d => namelessB d
  | .fn _ _ caps => namelessLB caps
def namelessLB : List D → Bool
  | [] => true
  | d :: ds => namelessB d && namelessLB ds
end
mutual
theorem namelessB_ok : ∀ d : D, namelessB d = true → Nameless d
  | .v _, h => trivial
  | .ro _ xs, h => by simp only [namelessB] at h; simp only [Nameless]; exact namelessLB_ok xs h
  | .rp xs _, h => by simp only [namelessB] at h; simp only [Nameless]; exact namelessLB_ok xs h
  | .sl .., h => by simp [namelessB] at h
  | .ptr .., h => by simp [namelessB] at h
  | .agg xs, h => by simp only [namelessB] at h; simp only [Nameless]; exact namelessLB_ok xs h
  | .tup xs, h => by simp only [namelessB] at h; simp only [Nameless]; exact namelessLB_ok xs h
  | .ifc _ d, h => by simp only [namelessB] at h; simp only [Nameless]; exact namelessB_ok d h
  | .fn _ _ caps, h => by simp only [namelessB] at h; simp only [Nameless]; exact namelessLB_ok caps h
theorem namelessLB_ok : ∀ ds : List D, namelessLB ds = true → NamelessL ds
  | [], h => trivial
  | d :: ds, h => by simp only [namelessLB, Bool.and_eq_true] at h; simp only [NamelessL]; exact ⟨namelessB_ok d h.1, namelessLB_ok ds h.2⟩
end

theorem sealL_length {H : Heap} : ∀ {ds es : List D} {c : Prop}, sealL H ds = some (es, c) → es.length = ds.length
  | [], es, c, h => by simp only [sealL] at h; obtain ⟨rfl, _⟩ := pair_inj h; rfl
  | d :: ds, es, c, h => by
    simp only [sealL] at h
    split at h
    · rename_i h1 h2
      obtain ⟨rfl, _⟩ := pair_inj h
      simp [sealL_length h2]
    · cases h
/-! ### Lending own blocks to a callee that only reads them -/
def scalarL : List D → Bool
  | [] => true
  | .v _ :: r => scalarL r
  | _ => false
def scalarB : D → Bool
  | .v _ => true
  | .tup xs => scalarL xs
  | _ => false
theorem scalarL_rd {E E' : Ctx} : ∀ (ds : List D) (us : List Value), scalarL ds = true → RdT E ds us → RdT E' ds us
  | [], us, _, h => by simpa only [RdT] using h
  | .v x :: r, us, hs, h => by
    simp only [scalarL] at hs
    simp only [RdT, Rd] at h ⊢
    obtain ⟨u, q, e, hu, h⟩ := h
    exact ⟨u, q, e, hu, scalarL_rd r q hs h⟩
  | .ro .. :: _, _, hs, _ => by simp [scalarL] at hs
  | .rp .. :: _, _, hs, _ => by simp [scalarL] at hs
  | .sl .. :: _, _, hs, _ => by simp [scalarL] at hs
  | .ptr .. :: _, _, hs, _ => by simp [scalarL] at hs
  | .agg .. :: _, _, hs, _ => by simp [scalarL] at hs
  | .tup .. :: _, _, hs, _ => by simp [scalarL] at hs
  | .ifc .. :: _, _, hs, _ => by simp [scalarL] at hs
  | .fn .. :: _, _, hs, _ => by simp [scalarL] at hs
theorem scalarB_rd {E E' : Ctx} {d : D} {u : Value} (hs : scalarB d = true) (h : Rd E d u) : Rd E' d u := by
  cases d <;> simp only [scalarB] at hs <;> first | (cases hs; done) | skip
  case v x => simpa only [Rd] using h
  case tup xs =>
    simp only [Rd] at h ⊢
    obtain ⟨us, hu, h⟩ := h
    exact ⟨us, hu, scalarL_rd xs us.toList hs h⟩

theorem scalarL_nameless : ∀ {ds : List D}, scalarL ds = true → NamelessL ds
  | [], _ => trivial
  | .v _ :: r, h => by simp only [scalarL] at h; simp only [NamelessL, Nameless]; exact ⟨trivial, scalarL_nameless h⟩
  | .ro .. :: _, hs => by simp [scalarL] at hs
  | .rp .. :: _, hs => by simp [scalarL] at hs
  | .sl .. :: _, hs => by simp [scalarL] at hs
  | .ptr .. :: _, hs => by simp [scalarL] at hs
  | .agg .. :: _, hs => by simp [scalarL] at hs
  | .tup .. :: _, hs => by simp [scalarL] at hs
  | .ifc .. :: _, hs => by simp [scalarL] at hs
  | .fn .. :: _, hs => by simp [scalarL] at hs
theorem scalarB_nameless {d : D} (hs : scalarB d = true) : Nameless d := by
  cases d <;> simp only [scalarB] at hs <;> first | (cases hs; done) | skip
  case v x => trivial
  case tup xs => simp only [Nameless]; exact scalarL_nameless hs

theorem PureJ.borrow {P : Program} {f : FuncId} {ds ds' : List D} {d : D} {H : Heap} {c : Prop} (h : PureJ P f ds' d) (hs : sealL H ds = some (ds', c)) (hc : c) (hd : scalarB d = true) : CallJ P f ds H d H := by
  refine ⟨h.callable, fun ρ S w vals hS hv => ?_⟩
  have hsub : ∀ k, (S k ∨ Live ρ H k) → k < w.heap.size := fun k hk => by
    rcases hk with h | h
    · exact (hS.sub k h).1
    · exact hS.lt h
  have h1 : RdT (ctx ρ (fun k => S k ∨ Live ρ H k) w []) ds' vals :=
    sealT_rd (S' := fun k => S k ∨ Live ρ H k) (H' := []) hS (fun k h => .inl h) (fun b blk hb hz => .inr ⟨b, blk, hb, hz, rfl⟩) ds ds' c vals hs hc hv
  refine (h.call (fun k => S k ∨ Live ρ H k) w vals hsub (hS.glob.mono (fun _ h => .inl h) fun _ _ => rfl) (RdT.move h.args h1)).mono fun e w' ⟨v, S', he, hg, _, _, _, hr⟩ => ?_
  exact ⟨v, ρ, S, he, hS.grow hg, hg.le (fun k hk => (hS.sub k hk).1), scalarB_rd hd hr⟩

/-- some of the call's own blocks are given up -/
def dropN (H : Heap) : List Nat → Heap
  | [] => H
  | b :: r => dropN (H.set b none) r
theorem dropN_drops : ∀ (l : List Nat) (H : Heap), Drops H (dropN H l)
  | [], H => Drops.refl H
  | b :: r, H => (Drops.set H b).trans (dropN_drops r _)
theorem dropN_gone : ∀ (l : List Nat) (H : Heap) (b : Nat), b ∈ l → ∀ blk, ¬ (dropN H l)[b]? = some (some blk)
  | [], H, b, h, _ => by simp at h
  | c :: r, H, b, h, blk => by
    intro hb
    have hd := (dropN_drops r (H.set c none)).2 b blk hb
    rcases List.mem_cons.1 h with rfl | h
    · rw [List.getElem?_set] at hd
      split at hd <;> simp_all
    · exact dropN_gone r (H.set c none) b h blk hb
/-- own blocks are handed over for good -/
theorem PureJ.hand {P : Program} {f : FuncId} {ds ds' : List D} {d : D} {H : Heap} {c : Prop} (h : PureJ P f ds' d) (hs : sealL H ds = some (ds', c)) (hc : c) : CallJ P f ds H d (dropN H (namesD.namesA ds)) := by
  refine ⟨h.callable, fun ρ S w vals hS hv => ?_⟩
  let S0 : Nat → Prop := fun k => S k ∨ ∃ b blk, b ∈ namesD.namesA ds ∧ H[b]? = some (some blk) ∧ 0 < (ρ b).2 ∧ (ρ b).1 = k
  have hD := dropN_drops (namesD.namesA ds) H
  have hsub : ∀ k, S0 k → k < w.heap.size := fun k hk => by
    rcases hk with h | ⟨b, blk, _, h2, h3, h4⟩
    · exact (hS.sub k h).1
    · exact hS.lt ⟨b, blk, h2, h3, h4⟩
  have h1 : RdT (ctx ρ S0 w []) ds' vals :=
    sealT_rdN (N := fun b => b ∈ namesD.namesA ds) (S' := S0) (H' := []) hS (fun k h => .inl h) (fun b blk hn hb hz => .inr ⟨b, blk, hn, hb, hz, rfl⟩) ds ds' c vals (fun b hb => hb) hs hc hv
  have hfix0 : ∀ k, S0 k → Fix (ctx ρ S0 w (dropN H (namesD.namesA ds))) k := fun k hk => ⟨hsub k hk, fun ⟨b, blk, hb, hz, e⟩ => by
    have hb0 := hD.2 b blk hb
    rcases hk with hk | ⟨b', blk', hn, hb', hz', e'⟩
    · exact (hS.sub k hk).2 ⟨b, blk, hb0, hz, e⟩
    · have := hS.inj b b' _ _ hb0 hb' hz hz' (e.trans e'.symm)
      subst this
      exact dropN_gone _ H b hn blk hb⟩
  refine (h.call S0 w vals hsub (hS.glob.mono (fun _ h => .inl h) fun _ _ => rfl) (RdT.move h.args h1)).mono fun e w' ⟨v, S', he, hg, g1, g2, g3, g4⟩ => ?_
  have hSd := hS.drops hD
  have hfix : ∀ k, S' k → Fix (ctx ρ S' w' (dropN H (namesD.namesA ds))) k := fun k hk => ⟨g3 k hk, fun hl => by
    rcases g2 k hk with h | h
    · exact (hfix0 k h).2 hl
    · have := hSd.lt hl; omega⟩
  have hle : (ctx ρ S w H).le (ctx ρ S' w' (dropN H (namesD.namesA ds))) :=
    ⟨Nat.le_of_eq hD.1.symm, fun _ _ => rfl, fun k hk => g1 k (.inl hk), fun k hk => hg.heap k (hS.sub k hk).1, fun k hk => by
      rcases g2 k hk with (h | ⟨b, blk, _, h2, h3, h4⟩) | h
      · exact .inl h
      · exact .inr (.inl ⟨b, blk, h2, h3, h4⟩)
      · exact .inr (.inr h),
     fun k hk => ⟨Nat.lt_of_lt_of_le hk.1 hg.size, fun ⟨b, blk, hb, hz, e⟩ => hk.2 ⟨b, blk, hD.2 b blk hb, hz, e⟩⟩, fun k hk => hg.heap k hk.1, hg.size, hg.os, hg.tape, hg.output⟩
  refine ⟨v, ρ, S', he, ⟨hfix, fun b blk hb hz => hS.none b blk (hD.2 b blk hb) hz, fun b blk hb hz => ?_, fun b b' blk blk' hb hb' hz hz' e => hS.inj b b' _ _ (hD.2 _ _ hb) (hD.2 _ _ hb') hz hz' e, hS.glob.mono (fun _ h => g1 _ (.inl h)) hle.keep⟩, hle, Rd.move h.res g4⟩
  obtain ⟨cur, hcur⟩ := hS.blk b blk (hD.2 b blk hb) hz
  exact ⟨cur, hcur.heap.of (hg.heap _ hcur.lt), hcur.size, hcur.pre.mono hle _ _, hcur.full⟩
mutual
def sealDB (H : Heap) : D → Bool
  | .sl b off n c => match blkAt H b with
    | some blk => match c with
      | .exact _ es => namelessLB blk.cs && (decide (0 < es) && decide (off + n * es ≤ blk.cs.length))
      | .toEnd es => namelessLB blk.cs && (decide (0 < es) && decide (off + n * es ≤ blk.cs.length))
    | none => false
  | .ptr b off => match blkAt H b with
    | some blk => namelessLB blk.cs && decide (0 < blk.cs.length)
    | none => false
  | .agg xs => sealLB H xs
  | .tup xs => sealLB H xs
  | .ifc _ d => sealDB H d
  | .fn _ _ caps => sealLB H caps
  | _ => true
def sealLB (H : Heap) : List D → Bool
  | [] => true
  | d :: ds => sealDB H d && sealLB H ds
end
mutual
theorem sealDB_ok {H : Heap} : ∀ (d e : D) (c : Prop), sealD H d = some (e, c) → sealDB H d = true → c
  | .v x, e, c, h, hb => by simp only [sealD] at h; obtain ⟨_, rfl⟩ := pair_inj h; trivial
  | .ro n xs, e, c, h, hb => by simp only [sealD] at h; obtain ⟨_, rfl⟩ := pair_inj h; trivial
  | .rp xs j, e, c, h, hb => by simp only [sealD] at h; obtain ⟨_, rfl⟩ := pair_inj h; trivial
  | .sl b off n cp, e, c, h, hb => by
    simp only [sealD] at h
    split at h
    · rename_i blk hblk
      cases cp <;> simp only at h <;> obtain ⟨_, rfl⟩ := pair_inj h <;> simp only [sealDB, hblk, Bool.and_eq_true, decide_eq_true_eq] at hb <;> exact ⟨namelessLB_ok _ hb.1, hb.2⟩
    · cases h
  | .ptr b off, e, c, h, hb => by
    simp only [sealD] at h
    split at h
    · rename_i blk hblk
      obtain ⟨_, rfl⟩ := pair_inj h
      simp only [sealDB, hblk, Bool.and_eq_true, decide_eq_true_eq] at hb
      exact ⟨namelessLB_ok _ hb.1, hb.2⟩
    · cases h
  | .agg xs, e, c, h, hb => by
    simp only [sealD] at h
    split at h
    · rename_i hl
      obtain ⟨_, rfl⟩ := pair_inj h
      exact sealLB_ok xs _ _ hl (by simpa only [sealDB] using hb)
    · cases h
  | .tup xs, e, c, h, hb => by
    simp only [sealD] at h
    split at h
    · rename_i hl
      obtain ⟨_, rfl⟩ := pair_inj h
      exact sealLB_ok xs _ _ hl (by simpa only [sealDB] using hb)
    · cases h
  | .ifc t d, e, c, h, hb => by
    simp only [sealD] at h
    split at h
    · rename_i hl
      obtain ⟨_, rfl⟩ := pair_inj h
      exact sealDB_ok d _ _ hl (by simpa only [sealDB] using hb)
    · cases h
  | .fn f j caps, e, c, h, hb => by
    simp only [sealD] at h
    split at h
    · rename_i hl
      obtain ⟨_, rfl⟩ := pair_inj h
      exact sealLB_ok caps _ _ hl (by simpa only [sealDB] using hb)
    · cases h
theorem sealLB_ok {H : Heap} : ∀ (ds es : List D) (c : Prop), sealL H ds = some (es, c) → sealLB H ds = true → c
  | [], es, c, h, hb => by simp only [sealL] at h; obtain ⟨_, rfl⟩ := pair_inj h; trivial
  | d :: ds, es, c, h, hb => by
    simp only [sealL] at h
    split at h
    · rename_i h1 h2
      obtain ⟨_, rfl⟩ := pair_inj h
      simp only [sealLB, Bool.and_eq_true] at hb
      exact ⟨sealDB_ok d _ _ h1 hb.1, sealLB_ok ds _ _ h2 hb.2⟩
    · cases h
end
end Go.VD
