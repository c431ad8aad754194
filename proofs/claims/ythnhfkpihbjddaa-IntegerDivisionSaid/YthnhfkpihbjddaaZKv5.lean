import Derived.Test.YthnhfkpihbjddaaZKv4
import Derived.Scope
section
namespace Go.VD
set_option linter.unusedVariables false
set_option linter.unusedSimpArgs false
def srcB (H : Heap) (es : Nat) : Option D → Bool
  | some (.ro m ys) => decide (m * es ≤ ys.length)
  | some (.sl b off m _) => match blkAt H b with
    | some blk => decide (off + m * es ≤ blk.cs.length)
    | none => false
  | _ => true
theorem srcB_ok {H : Heap} {es : Nat} {x : Option D} {m : Nat} {news : List D} {c : Prop} (h : srcD H es x = some (m, news, c)) (hb : srcB H es x = true) : c := by
  unfold srcD at h
  split at h
  · injection h with h; injection h with _ h; injection h with _ h; subst h; simpa [srcB] using hb
  · split at h
    · rename_i blk hblk
      injection h with h; injection h with _ h; injection h with _ h; subst h; simpa [srcB, hblk] using hb
    · cases h
  · injection h with h; injection h with _ h; injection h with _ h; subst h; trivial
  · cases h
def loadHB (H : Heap) (t : Option TI) : Option D → Bool
  | some (.ptr b off) => match blkAt H b, t with
    | some blk, some ti => partB ti blk.cs off
    | _, _ => false
  | _ => false
def storeHB (H : Heap) (t : Option TI) (ys : Option (List D)) : Option D → Bool
  | some (.ptr b off) => match blkAt H b, t, ys with
    | some blk, some ti, some ys => decide (ys.length = ti.size) && decide (off + ti.size ≤ blk.cs.length)
    | _, _, _ => false
  | _ => false
def makeHB (T : Tbl) (t : Option TI) : Option D → Option D → Bool
  | some (.v (.int _ n)), some (.v (.int _ m)) => match t with
    | some ⟨.slice e, _, _, _⟩ => match T e with
      | some ti => decide (0 ≤ n) && (decide (n ≤ m) && (decide ((ti.bytes : Int) * m ≤ 281474976710656) && decide (m ≤ 9223372036854775807)))
      | none => false
    | _ => false
  | _, _ => false
def buildSliceHB (T : Tbl) (t : Option TI) (len : Nat) : Bool :=
  match t with
  | some ⟨.slice e, _, _, _⟩ => match T e with
    | some ti => decide (len * ti.size ≤ 16777216) && decide (len ≤ maxLen)
    | none => false
  | _ => false
def appendHB (T : Tbl) (H : Heap) (t t' : Option TypeId) (ti : Option TI) (src : Option D) : Option D → Bool
  | some (.sl b 0 n (.toEnd es)) => match t, t', ti with
    | some t, some t', some ⟨.slice e, _, _, _⟩ => match T e, blkAt H b with
      | some te, some blk => match srcD H te.size src with
        | some (m, _, _) => srcB H te.size src && (t == t' && (es == te.size && (blk.ty == e && (decide (n * te.size ≤ blk.cs.length) && (decide (0 < te.size) && (decide (n + m ≤ maxLen) && decide ((n + m) * te.bytes ≤ 140737488355328)))))))
        | none => false
      | _, _ => false
    | _, _, _ => false
  | some (.v (.slice none 0 0)) => match t, t', ti with
    | some t, some t', some ⟨.slice e, _, _, _⟩ => match T e with
      | some te => match srcD H te.size src with
        | some (m, _, _) => srcB H te.size src && (t == t' && (decide (0 < te.size) && (decide (m ≤ maxLen) && decide (m * te.bytes ≤ 140737488355328))))
        | none => false
      | none => false
    | _, _, _ => false
  | _ => false
theorem appendHB_ok {T : Tbl} {H : Heap} {t t' : Option TypeId} {ti : Option TI} {src s : Option D} {out : HOut} (h : appendH T H t t' ti src s = some out) (hb : appendHB T H t t' ti src s = true) : out.c := by
  unfold appendH at h
  split at h
  · split at h
    · split at h
      · rename_i h4 h5
        split at h
        · rename_i h6
          injection h with h; subst h
          simp only [appendHB, h4, h5, h6, Bool.and_eq_true, decide_eq_true_eq, beq_iff_eq] at hb
          exact ⟨srcB_ok h6 hb.1, hb.2⟩
        · cases h
      · cases h
    · cases h
  · split at h
    · split at h
      · rename_i h4
        split at h
        · rename_i h6
          injection h with h; subst h
          simp only [appendHB, h4, h6, Bool.and_eq_true, decide_eq_true_eq, beq_iff_eq] at hb
          exact ⟨srcB_ok h6 hb.1, hb.2⟩
        · cases h
      · cases h
    · cases h
  · cases h
def opHB (T : Tbl) (env : Env) (H : Heap) : Op → Bool
  | .convert s d x => match srcD H 1 (opnd env x) with
    | some (_, news, _) => srcB H 1 (opnd env x) && news.all (isIntB .u8)
    | none => false
  | .load t x => loadHB H (T t) (opnd env x)
  | .store t x y => storeHB H (T t) ((opnd env y).bind cellsD) (opnd env x)
  | .makeSlice t l c => makeHB T (T t) (opnd env l) (opnd env c)
  | .buildSlice t len parts => buildSliceHB T (T t) len
  | .call { callee := .builtin .append, args, argTypes } => match args.toList with
    | [s, x] => appendHB T H argTypes.toList[0]? argTypes.toList[1]? (argTypes.toList[0]?.bind T) (opnd env x) (opnd env s)
    | _ => false
  | _ => true
theorem opHB_ok {T : Tbl} {env : Env} {H : Heap} {op : Op} {out : HOut} (h : opH T env H op = some out) (hb : opHB T env H op = true) : out.c := by
  cases op
  case convert s d x =>
    simp only [opH, bytesH] at h
    split at h
    · split at h
      · split at h
        · rename_i hsrc
          injection h with h; subst h
          simp only [opHB, hsrc, Bool.and_eq_true, List.all_eq_true] at hb
          exact ⟨srcB_ok hsrc hb.1, fun d hd => isIntB_ok (hb.2 d hd)⟩
        · cases h
      · cases h
    · cases h
  case box elem x => simp only [opH, boxH] at h; split at h <;> first | (injection h with h; subst h; trivial) | cases h
  case alloc elem => simp only [opH] at h; split at h <;> first | (injection h with h; subst h; trivial) | cases h
  case load t x =>
    simp only [opH, loadH] at h; split at h
    · rename_i hx
      split at h
      · rename_i hblk ht
        injection h with h; subst h
        simp only [opHB, loadHB, hx, hblk, ht] at hb
        exact partB_ok hb
      · cases h
    · cases h
  case store t x y =>
    simp only [opH, storeH] at h; split at h
    · rename_i hx
      split at h
      · rename_i hblk ht hy
        injection h with h; subst h
        simp only [opHB, storeHB, hx, hblk, ht, hy, Bool.and_eq_true, decide_eq_true_eq] at hb
        exact hb
      · cases h
    · cases h
  case makeSlice t l c =>
    simp only [opH, makeH] at h; split at h
    · rename_i hl hc
      split at h
      · rename_i ht
        split at h
        · rename_i hte
          injection h with h; subst h
          simp only [opHB, makeHB, hl, hc, ht, hte, Bool.and_eq_true, decide_eq_true_eq] at hb
          exact hb
        · cases h
      · cases h
    · cases h
  case buildSlice t len parts =>
    simp only [opH, buildSliceH] at h; split at h
    · rename_i ht
      split at h
      · rename_i hte
        split at h
        · injection h with h; subst h
          simp only [opHB, buildSliceHB, ht, hte, Bool.and_eq_true, decide_eq_true_eq] at hb
          exact hb
        · cases h
      · cases h
    · cases h
  case call c =>
    obtain ⟨callee, args, ts⟩ := c
    cases callee with
    | value f => simp [opH] at h
    | invoke r m => simp [opH] at h
    | builtin b =>
      cases b
      case append =>
        simp only [opH] at h
        split at h
        · rename_i s x hargs
          simp only [opHB, hargs] at hb
          exact appendHB_ok h hb
        · cases h
      all_goals (simp [opH] at h)
  all_goals (simp [opH] at h)
end Go.VD
end
section
namespace Go.VD
set_option linter.unusedVariables false
set_option linter.unusedSimpArgs false
mutual
def shD (k : Nat) : D → D
  | .v x => .v x
  | .ro n xs => .ro n xs
  | .rp xs j => .rp xs j
  | .sl b off n c => .sl (b + k) off n c
  | .ptr b off => .ptr (b + k) off
  | .agg xs => .agg (shL k xs)
  | .tup xs => .tup (shL k xs)
  | .ifc t d => .ifc t (shD k d)
  | .fn f j caps => .fn f j (shL k caps)
def shL (k : Nat) : List D → List D
  | [] => []
  | d :: ds => shD k d :: shL k ds
end
theorem shL_length (k : Nat) : ∀ ds, (shL k ds).length = ds.length
  | [] => rfl
  | d :: ds => by simp [shL, shL_length k ds]
def shB (k : Nat) (b : Blk) : Blk := ⟨b.ty, shL k b.cs, b.full⟩
def shO (k : Nat) : Option Blk → Option Blk
  | some b => some (shB k b)
  | none => none
def shH (k : Nat) (H : Heap) : Heap := H.map (shO k)
section
variable {ρ ρ' : Nat → Nat × Nat} {S S' : Nat → Prop} {w : World} {H H' : Heap} {k : Nat}
mutual
theorem Rd.shift (hS : ∀ x, S x → S' x) (hb : ∀ b, b < H.length → b + k < H'.length ∧ ρ' (b + k) = ρ b) : ∀ (d : D) (u : Value), Rd (ctx ρ S w H) d u → Rd (ctx ρ' S' w H') (shD k d) u
  | .v x, u, hr => by simpa only [Rd, shD] using hr
  | .ro n xs, u, hr => by
    have hn : NamelessL xs := by simp only [Rd] at hr; exact hr.1
    simp only [shD]; exact Rd.moveS hS (by simpa [Nameless] using hn) hr
  | .rp xs j, u, hr => by
    have hn : NamelessL xs := by simp only [Rd] at hr; exact hr.1
    simp only [shD]; exact Rd.moveS hS (by simpa [Nameless] using hn) hr
  | .sl b off n (.exact c _), u, hr => by
    simp only [Rd, shD] at hr ⊢
    obtain ⟨h0, h1, h2, A, h3, h4⟩ := hr
    exact ⟨(hb b h0).1, h1, h2, A, h3, by rw [(hb b h0).2]; exact h4⟩
  | .sl b off n (.toEnd es), u, hr => by
    simp only [Rd, shD] at hr ⊢
    obtain ⟨h0, A, c, h3, h1, h2, h4, h5⟩ := hr
    exact ⟨(hb b h0).1, A, c, h3, h1, h2, by rw [(hb b h0).2]; exact h4, by rw [(hb b h0).2]; exact h5⟩
  | .ptr b off, u, hr => by
    simp only [Rd, shD] at hr ⊢
    exact ⟨(hb b hr.1).1, by rw [(hb b hr.1).2]; exact hr.2⟩
  | .agg xs, u, hr => by
    simp only [Rd, shD] at hr ⊢
    obtain ⟨us, hu, hr⟩ := hr
    exact ⟨us, hu, RdL.shift hS hb xs us.toList hr⟩
  | .tup xs, u, hr => by
    simp only [Rd, shD] at hr ⊢
    obtain ⟨us, hu, hr⟩ := hr
    exact ⟨us, hu, RdT.shift hS hb xs us.toList hr⟩
  | .ifc t d, u, hr => by
    simp only [Rd, shD] at hr ⊢
    obtain ⟨x, hu, hr⟩ := hr
    exact ⟨x, hu, Rd.shift hS hb d x hr⟩
  | .fn f j caps, u, hr => by
    simp only [Rd, shD] at hr ⊢
    obtain ⟨fs, us, hu, hj, hr⟩ := hr
    exact ⟨fs, us, hu, hj, RdT.shift hS hb caps _ hr⟩
theorem RdL.shift (hS : ∀ x, S x → S' x) (hb : ∀ b, b < H.length → b + k < H'.length ∧ ρ' (b + k) = ρ b) : ∀ (ds : List D) (us : List Value), RdL (ctx ρ S w H) ds us → RdL (ctx ρ' S' w H') (shL k ds) us
  | [], us, hr => by simpa only [RdL, shL] using hr
  | d :: ds, us, hr => by
    simp only [RdL, shL] at hr ⊢
    obtain ⟨u, r, hu, ho, hd, hr⟩ := hr
    exact ⟨u, r, hu, ho, Rd.shift hS hb d u hd, RdL.shift hS hb ds r hr⟩
theorem RdT.shift (hS : ∀ x, S x → S' x) (hb : ∀ b, b < H.length → b + k < H'.length ∧ ρ' (b + k) = ρ b) : ∀ (ds : List D) (us : List Value), RdT (ctx ρ S w H) ds us → RdT (ctx ρ' S' w H') (shL k ds) us
  | [], us, hr => by simpa only [RdT, shL] using hr
  | d :: ds, us, hr => by
    simp only [RdT, shL] at hr ⊢
    obtain ⟨u, r, hu, hd, hr⟩ := hr
    exact ⟨u, r, hu, Rd.shift hS hb d u hd, RdT.shift hS hb ds r hr⟩
end
end
theorem shH_get {k : Nat} {H : Heap} {b : Nat} {blk : Blk} (h : (shH k H)[b]? = some (some blk)) : ∃ blk0, H[b]? = some (some blk0) ∧ blk = shB k blk0 := by
  simp only [shH, List.getElem?_map] at h
  cases hb : H[b]? with
  | none => simp [hb] at h
  | some o =>
    simp only [hb, Option.map_some, Option.some.injEq] at h
    cases o with
    | none => simp [shO] at h
    | some blk0 => exact ⟨blk0, rfl, by simpa [shO] using h.symm⟩
theorem CallJ.frame {P : Program} {f : FuncId} {ds : List D} {d : D} {H1 : Heap} (h : CallJ P f ds [] d H1) (hn : NamelessL ds) (H : Heap) : CallJ P f ds H (shD H.length d) (H ++ shH H.length H1) := by
  refine ⟨h.1, fun ρ S w vals hS hv => ?_⟩
  have hsub : ∀ k, S k → k < w.heap.size := fun k hk => (hS.sub k hk).1
  refine (h.2 ρ S w vals (St.nil _ hsub hS.glob) (RdT.move hn hv)).mono fun e w' ⟨v, ρ1, S1, he, hS1, hle, hd⟩ => ?_
  have nl : ∀ k, ¬ Live ρ [] k := fun k ⟨b, blk, hb, _⟩ => by simp at hb
  have new : ∀ k, Live ρ1 H1 k → w.heap.size ≤ k := fun k hk => by
    rcases Nat.lt_or_ge k w.heap.size with h | h
    · exact absurd hk (hle.fix k ⟨h, nl k⟩).2
    · exact h
  let ρ2 : Nat → Nat × Nat := fun b => if b < H.length then ρ b else ρ1 (b - H.length)
  have e1 : ∀ b, b < H.length → ρ2 b = ρ b := fun b hb => if_pos hb
  have e2 : ∀ b, ρ2 (b + H.length) = ρ1 b := fun b => by
    show (if _ then _ else _) = _
    rw [if_neg (by omega)]; congr 1; omega
  have split : ∀ b blk, (H ++ shH H.length H1)[b]? = some (some blk) → (b < H.length ∧ H[b]? = some (some blk)) ∨ (∃ c blk0, b = c + H.length ∧ H1[c]? = some (some blk0) ∧ blk = shB H.length blk0) := by
    intro b blk hb
    rcases Nat.lt_or_ge b H.length with hlt | hge
    · rw [List.getElem?_append_left hlt] at hb; exact .inl ⟨hlt, hb⟩
    · rw [List.getElem?_append_right hge] at hb
      obtain ⟨blk0, h1, h2⟩ := shH_get hb
      exact .inr ⟨b - H.length, blk0, by omega, h1, h2⟩
  have live : ∀ k, Live ρ2 (H ++ shH H.length H1) k → Live ρ H k ∨ Live ρ1 H1 k := by
    rintro k ⟨b, blk, hb, hz, hk⟩
    rcases split b blk hb with ⟨h1, h2⟩ | ⟨c, blk0, rfl, h2, h3⟩
    · rw [e1 b h1] at hz hk; exact .inl ⟨b, blk, h2, hz, hk⟩
    · rw [e2] at hz hk; exact .inr ⟨c, blk0, h2, hz, hk⟩
  have hlen : (H ++ shH H.length H1).length = H.length + H1.length := by simp [shH]
  have hle2 : (ctx ρ S w H).le (ctx ρ2 S1 w' (H ++ shH H.length H1)) :=
    ⟨by simp [shH], e1, hle.S, hle.keep, fun k hk => by
      rcases hle.new k hk with h | h | h
      · exact .inl h
      · exact absurd h (nl k)
      · exact .inr (.inr h),
    fun k hk => ⟨Nat.lt_of_lt_of_le hk.1 hle.size, fun hl => by
      rcases live k hl with h | h
      · exact hk.2 h
      · have := new k h; have := hk.1; simp only [ctx] at *; omega⟩,
    fun k hk => hle.heap k ⟨hk.1, nl k⟩, hle.size, hle.os, hle.tape, hle.output⟩
  have hsh : ∀ b, b < H1.length → b + H.length < (H ++ shH H.length H1).length ∧ ρ2 (b + H.length) = ρ1 b := fun b hb => ⟨by rw [hlen]; omega, e2 b⟩
  refine ⟨v, ρ2, S1, he, ⟨fun k hk => ⟨(hS1.sub k hk).1, fun hl => ?_⟩, ?_, ?_, ?_, hS1.glob⟩, hle2, Rd.shift (fun _ h => h) hsh d v hd⟩
  · rcases live k hl with h | h
    · rcases hle.new k hk with h2 | h2 | h2
      · exact (hS.sub k h2).2 h
      · exact nl k h2
      · have := hS.lt h; simp only [ctx] at *; omega
    · exact (hS1.sub k hk).2 h
  · intro b blk hb hz
    rcases split b blk hb with ⟨h1, h2⟩ | ⟨c, blk0, rfl, h2, rfl⟩
    · rw [e1 b h1] at hz; exact hS.none b blk h2 hz
    · rw [e2] at hz
      have := hS1.none c blk0 h2 hz
      simp [shB, this, shL]
  · intro b blk hb hz
    rcases split b blk hb with ⟨h1, h2⟩ | ⟨c, blk0, rfl, h2, rfl⟩
    · rw [e1 b h1] at hz ⊢
      obtain ⟨cur, hc⟩ := hS.blk b blk h2 hz
      exact ⟨cur, (hle.heap _ ⟨hc.lt, nl _⟩).trans hc.heap, hc.size, hc.pre.mono hle2 _ _, hc.full⟩
    · rw [e2] at hz ⊢
      obtain ⟨cur, hc⟩ := hS1.blk c blk0 h2 hz
      refine ⟨cur, hc.heap, hc.size, ?_, fun hf => ?_⟩
      · have := RdL.shift (S' := S1) (fun _ h => h) hsh blk0.cs _ hc.pre
        simpa [shB, shL_length] using this
      · have := hc.full (by simpa [shB] using hf)
        simpa [shB, shL_length] using this
  · intro b b' blk blk' hb hb' hz hz' hk
    rcases split b blk hb with ⟨h1, h2⟩ | ⟨c, blk0, rfl, h2, rfl⟩ <;> rcases split b' blk' hb' with ⟨h1', h2'⟩ | ⟨c', blk0', rfl, h2', rfl⟩
    · rw [e1 b h1] at hz hk; rw [e1 b' h1'] at hz' hk
      exact hS.inj b b' blk blk' h2 h2' hz hz' hk
    · rw [e1 b h1] at hz hk; rw [e2] at hz' hk
      have := new _ ⟨c', blk0', h2', hz', rfl⟩
      have := hS.lt ⟨b, blk, h2, hz, rfl⟩
      omega
    · rw [e2] at hz hk; rw [e1 b' h1'] at hz' hk
      have := new _ ⟨c, blk0, h2, hz, rfl⟩
      have := hS.lt ⟨b', blk', h2', hz', rfl⟩
      omega
    · rw [e2] at hz hk; rw [e2] at hz' hk
      have := hS1.inj c c' blk0 blk0' h2 h2' hz hz' hk
      omega
mutual
def namelessB : D → Bool
  | .v _ => true
  | .ro _ xs => namelessLB xs
  | .rp xs _ => namelessLB xs
  | .sl .. => false
  | .ptr .. => false
  | .agg xs => namelessLB xs
  | .tup xs => namelessLB xs
  | .ifc _ d => namelessB d
  | .fn _ _ caps => namelessLB caps
def namelessLB : List D → Bool
  | [] => true
  | d :: ds => namelessB d && namelessLB ds
end
mutual
theorem namelessB_ok : ∀ d : D, namelessB d = true → Nameless d
  | .v _, h => trivial
  | .ro _ xs, h => by simp only [namelessB] at h; simp only [Nameless]; exact namelessLB_ok xs h
  | .rp xs _, h => by simp only [namelessB] at h; simp only [Nameless]; exact namelessLB_ok xs h
  | .sl .., h => by simp [namelessB] at h
  | .ptr .., h => by simp [namelessB] at h
  | .agg xs, h => by simp only [namelessB] at h; simp only [Nameless]; exact namelessLB_ok xs h
  | .tup xs, h => by simp only [namelessB] at h; simp only [Nameless]; exact namelessLB_ok xs h
  | .ifc _ d, h => by simp only [namelessB] at h; simp only [Nameless]; exact namelessB_ok d h
  | .fn _ _ caps, h => by simp only [namelessB] at h; simp only [Nameless]; exact namelessLB_ok caps h
theorem namelessLB_ok : ∀ ds : List D, namelessLB ds = true → NamelessL ds
  | [], h => trivial
  | d :: ds, h => by simp only [namelessLB, Bool.and_eq_true] at h; simp only [NamelessL]; exact ⟨namelessB_ok d h.1, namelessLB_ok ds h.2⟩
end
theorem sealL_length {H : Heap} : ∀ {ds es : List D} {c : Prop}, sealL H ds = some (es, c) → es.length = ds.length
  | [], es, c, h => by simp only [sealL] at h; obtain ⟨rfl, _⟩ := pair_inj h; rfl
  | d :: ds, es, c, h => by
    simp only [sealL] at h
    split at h
    · rename_i h1 h2
      obtain ⟨rfl, _⟩ := pair_inj h
      simp [sealL_length h2]
    · cases h
def scalarL : List D → Bool
  | [] => true
  | .v _ :: r => scalarL r
  | _ => false
def scalarB : D → Bool
  | .v _ => true
  | .tup xs => scalarL xs
  | _ => false
theorem scalarL_rd {E E' : Ctx} : ∀ (ds : List D) (us : List Value), scalarL ds = true → RdT E ds us → RdT E' ds us
  | [], us, _, h => by simpa only [RdT] using h
  | .v x :: r, us, hs, h => by
    simp only [scalarL] at hs
    simp only [RdT, Rd] at h ⊢
    obtain ⟨u, q, e, hu, h⟩ := h
    exact ⟨u, q, e, hu, scalarL_rd r q hs h⟩
  | .ro .. :: _, _, hs, _ => by simp [scalarL] at hs
  | .rp .. :: _, _, hs, _ => by simp [scalarL] at hs
  | .sl .. :: _, _, hs, _ => by simp [scalarL] at hs
  | .ptr .. :: _, _, hs, _ => by simp [scalarL] at hs
  | .agg .. :: _, _, hs, _ => by simp [scalarL] at hs
  | .tup .. :: _, _, hs, _ => by simp [scalarL] at hs
  | .ifc .. :: _, _, hs, _ => by simp [scalarL] at hs
  | .fn .. :: _, _, hs, _ => by simp [scalarL] at hs
theorem scalarB_rd {E E' : Ctx} {d : D} {u : Value} (hs : scalarB d = true) (h : Rd E d u) : Rd E' d u := by
  cases d <;> simp only [scalarB] at hs <;> first | (cases hs; done) | skip
  case v x => simpa only [Rd] using h
  case tup xs =>
    simp only [Rd] at h ⊢
    obtain ⟨us, hu, h⟩ := h
    exact ⟨us, hu, scalarL_rd xs us.toList hs h⟩
theorem scalarL_nameless : ∀ {ds : List D}, scalarL ds = true → NamelessL ds
  | [], _ => trivial
  | .v _ :: r, h => by simp only [scalarL] at h; simp only [NamelessL, Nameless]; exact ⟨trivial, scalarL_nameless h⟩
  | .ro .. :: _, hs => by simp [scalarL] at hs
  | .rp .. :: _, hs => by simp [scalarL] at hs
  | .sl .. :: _, hs => by simp [scalarL] at hs
  | .ptr .. :: _, hs => by simp [scalarL] at hs
  | .agg .. :: _, hs => by simp [scalarL] at hs
  | .tup .. :: _, hs => by simp [scalarL] at hs
  | .ifc .. :: _, hs => by simp [scalarL] at hs
  | .fn .. :: _, hs => by simp [scalarL] at hs
theorem scalarB_nameless {d : D} (hs : scalarB d = true) : Nameless d := by
  cases d <;> simp only [scalarB] at hs <;> first | (cases hs; done) | skip
  case v x => trivial
  case tup xs => simp only [Nameless]; exact scalarL_nameless hs
theorem PureJ.borrow {P : Program} {f : FuncId} {ds ds' : List D} {d : D} {H : Heap} {c : Prop} (h : PureJ P f ds' d) (hs : sealL H ds = some (ds', c)) (hc : c) (hd : scalarB d = true) : CallJ P f ds H d H := by
  refine ⟨h.callable, fun ρ S w vals hS hv => ?_⟩
  have hsub : ∀ k, (S k ∨ Live ρ H k) → k < w.heap.size := fun k hk => by
    rcases hk with h | h
    · exact (hS.sub k h).1
    · exact hS.lt h
  have h1 : RdT (ctx ρ (fun k => S k ∨ Live ρ H k) w []) ds' vals :=
    sealT_rd (S' := fun k => S k ∨ Live ρ H k) (H' := []) hS (fun k h => .inl h) (fun b blk hb hz => .inr ⟨b, blk, hb, hz, rfl⟩) ds ds' c vals hs hc hv
  refine (h.call (fun k => S k ∨ Live ρ H k) w vals hsub (hS.glob.mono (fun _ h => .inl h) fun _ _ => rfl) (RdT.move h.args h1)).mono fun e w' ⟨v, S', he, hg, _, _, _, hr⟩ => ?_
  exact ⟨v, ρ, S, he, hS.grow hg, hg.le (fun k hk => (hS.sub k hk).1), scalarB_rd hd hr⟩
def dropN (H : Heap) : List Nat → Heap
  | [] => H
  | b :: r => dropN (H.set b none) r
theorem dropN_drops : ∀ (l : List Nat) (H : Heap), Drops H (dropN H l)
  | [], H => Drops.refl H
  | b :: r, H => (Drops.set H b).trans (dropN_drops r _)
theorem dropN_gone : ∀ (l : List Nat) (H : Heap) (b : Nat), b ∈ l → ∀ blk, ¬ (dropN H l)[b]? = some (some blk)
  | [], H, b, h, _ => by simp at h
  | c :: r, H, b, h, blk => by
    intro hb
    have hd := (dropN_drops r (H.set c none)).2 b blk hb
    rcases List.mem_cons.1 h with rfl | h
    · rw [List.getElem?_set] at hd
      split at hd <;> simp_all
    · exact dropN_gone r (H.set c none) b h blk hb
theorem PureJ.hand {P : Program} {f : FuncId} {ds ds' : List D} {d : D} {H : Heap} {c : Prop} (h : PureJ P f ds' d) (hs : sealL H ds = some (ds', c)) (hc : c) : CallJ P f ds H d (dropN H (namesD.namesA ds)) := by
  refine ⟨h.callable, fun ρ S w vals hS hv => ?_⟩
  let S0 : Nat → Prop := fun k => S k ∨ ∃ b blk, b ∈ namesD.namesA ds ∧ H[b]? = some (some blk) ∧ 0 < (ρ b).2 ∧ (ρ b).1 = k
  have hD := dropN_drops (namesD.namesA ds) H
  have hsub : ∀ k, S0 k → k < w.heap.size := fun k hk => by
    rcases hk with h | ⟨b, blk, _, h2, h3, h4⟩
    · exact (hS.sub k h).1
    · exact hS.lt ⟨b, blk, h2, h3, h4⟩
  have h1 : RdT (ctx ρ S0 w []) ds' vals :=
    sealT_rdN (N := fun b => b ∈ namesD.namesA ds) (S' := S0) (H' := []) hS (fun k h => .inl h) (fun b blk hn hb hz => .inr ⟨b, blk, hn, hb, hz, rfl⟩) ds ds' c vals (fun b hb => hb) hs hc hv
  have hfix0 : ∀ k, S0 k → Fix (ctx ρ S0 w (dropN H (namesD.namesA ds))) k := fun k hk => ⟨hsub k hk, fun ⟨b, blk, hb, hz, e⟩ => by
    have hb0 := hD.2 b blk hb
    rcases hk with hk | ⟨b', blk', hn, hb', hz', e'⟩
    · exact (hS.sub k hk).2 ⟨b, blk, hb0, hz, e⟩
    · have := hS.inj b b' _ _ hb0 hb' hz hz' (e.trans e'.symm)
      subst this
      exact dropN_gone _ H b hn blk hb⟩
  refine (h.call S0 w vals hsub (hS.glob.mono (fun _ h => .inl h) fun _ _ => rfl) (RdT.move h.args h1)).mono fun e w' ⟨v, S', he, hg, g1, g2, g3, g4⟩ => ?_
  have hSd := hS.drops hD
  have hfix : ∀ k, S' k → Fix (ctx ρ S' w' (dropN H (namesD.namesA ds))) k := fun k hk => ⟨g3 k hk, fun hl => by
    rcases g2 k hk with h | h
    · exact (hfix0 k h).2 hl
    · have := hSd.lt hl; omega⟩
  have hle : (ctx ρ S w H).le (ctx ρ S' w' (dropN H (namesD.namesA ds))) :=
    ⟨Nat.le_of_eq hD.1.symm, fun _ _ => rfl, fun k hk => g1 k (.inl hk), fun k hk => hg.heap k (hS.sub k hk).1, fun k hk => by
      rcases g2 k hk with (h | ⟨b, blk, _, h2, h3, h4⟩) | h
      · exact .inl h
      · exact .inr (.inl ⟨b, blk, h2, h3, h4⟩)
      · exact .inr (.inr h),
     fun k hk => ⟨Nat.lt_of_lt_of_le hk.1 hg.size, fun ⟨b, blk, hb, hz, e⟩ => hk.2 ⟨b, blk, hD.2 b blk hb, hz, e⟩⟩, fun k hk => hg.heap k hk.1, hg.size, hg.os, hg.tape, hg.output⟩
  refine ⟨v, ρ, S', he, ⟨hfix, fun b blk hb hz => hS.none b blk (hD.2 b blk hb) hz, fun b blk hb hz => ?_, fun b b' blk blk' hb hb' hz hz' e => hS.inj b b' _ _ (hD.2 _ _ hb) (hD.2 _ _ hb') hz hz' e, hS.glob.mono (fun _ h => g1 _ (.inl h)) hle.keep⟩, hle, Rd.move h.res g4⟩
  obtain ⟨cur, hcur⟩ := hS.blk b blk (hD.2 b blk hb) hz
  exact ⟨cur, (hg.heap _ hcur.lt).trans hcur.heap, hcur.size, hcur.pre.mono hle _ _, hcur.full⟩
mutual
def sealDB (H : Heap) : D → Bool
  | .sl b off n c => match blkAt H b with
    | some blk => match c with
      | .exact _ es => namelessLB blk.cs && (decide (0 < es) && decide (off + n * es ≤ blk.cs.length))
      | .toEnd es => namelessLB blk.cs && (decide (0 < es) && decide (off + n * es ≤ blk.cs.length))
    | none => false
  | .ptr b off => match blkAt H b with
    | some blk => namelessLB blk.cs && decide (0 < blk.cs.length)
    | none => false
  | .agg xs => sealLB H xs
  | .tup xs => sealLB H xs
  | .ifc _ d => sealDB H d
  | .fn _ _ caps => sealLB H caps
  | _ => true
def sealLB (H : Heap) : List D → Bool
  | [] => true
  | d :: ds => sealDB H d && sealLB H ds
end
mutual
theorem sealDB_ok {H : Heap} : ∀ (d e : D) (c : Prop), sealD H d = some (e, c) → sealDB H d = true → c
  | .v x, e, c, h, hb => by simp only [sealD] at h; obtain ⟨_, rfl⟩ := pair_inj h; trivial
  | .ro n xs, e, c, h, hb => by simp only [sealD] at h; obtain ⟨_, rfl⟩ := pair_inj h; trivial
  | .rp xs j, e, c, h, hb => by simp only [sealD] at h; obtain ⟨_, rfl⟩ := pair_inj h; trivial
  | .sl b off n cp, e, c, h, hb => by
    simp only [sealD] at h
    split at h
    · rename_i blk hblk
      cases cp <;> simp only at h <;> obtain ⟨_, rfl⟩ := pair_inj h <;> simp only [sealDB, hblk, Bool.and_eq_true, decide_eq_true_eq] at hb <;> exact ⟨namelessLB_ok _ hb.1, hb.2⟩
    · cases h
  | .ptr b off, e, c, h, hb => by
    simp only [sealD] at h
    split at h
    · rename_i blk hblk
      obtain ⟨_, rfl⟩ := pair_inj h
      simp only [sealDB, hblk, Bool.and_eq_true, decide_eq_true_eq] at hb
      exact ⟨namelessLB_ok _ hb.1, hb.2⟩
    · cases h
  | .agg xs, e, c, h, hb => by
    simp only [sealD] at h
    split at h
    · rename_i hl
      obtain ⟨_, rfl⟩ := pair_inj h
      exact sealLB_ok xs _ _ hl (by simpa only [sealDB] using hb)
    · cases h
  | .tup xs, e, c, h, hb => by
    simp only [sealD] at h
    split at h
    · rename_i hl
      obtain ⟨_, rfl⟩ := pair_inj h
      exact sealLB_ok xs _ _ hl (by simpa only [sealDB] using hb)
    · cases h
  | .ifc t d, e, c, h, hb => by
    simp only [sealD] at h
    split at h
    · rename_i hl
      obtain ⟨_, rfl⟩ := pair_inj h
      exact sealDB_ok d _ _ hl (by simpa only [sealDB] using hb)
    · cases h
  | .fn f j caps, e, c, h, hb => by
    simp only [sealD] at h
    split at h
    · rename_i hl
      obtain ⟨_, rfl⟩ := pair_inj h
      exact sealLB_ok caps _ _ hl (by simpa only [sealDB] using hb)
    · cases h
theorem sealLB_ok {H : Heap} : ∀ (ds es : List D) (c : Prop), sealL H ds = some (es, c) → sealLB H ds = true → c
  | [], es, c, h, hb => by simp only [sealL] at h; obtain ⟨_, rfl⟩ := pair_inj h; trivial
  | d :: ds, es, c, h, hb => by
    simp only [sealL] at h
    split at h
    · rename_i h1 h2
      obtain ⟨_, rfl⟩ := pair_inj h
      simp only [sealLB, Bool.and_eq_true] at hb
      exact ⟨sealDB_ok d _ _ h1 hb.1, sealLB_ok ds _ _ h2 hb.2⟩
    · cases h
end
end Go.VD
end
section
namespace Go.VD
set_option linter.unusedVariables false
set_option linter.unusedSimpArgs false
abbrev Callee := FuncId → List D → Heap → Option (D × Heap × Tch)
def prune : List Nat → Env → Env
  | _, [] => []
  | seen, (t, d) :: r => bif seen.contains t then prune seen r else (t, d) :: prune (t :: seen) r
theorem has_of {env : Env} : ∀ {r : Env}, (∀ t d, (t, d) ∈ r → env.lookup t = some d) → Has env r
  | [], _ => trivial
  | (t, d) :: r, h => ⟨h t d (by simp), has_of fun t d hm => h t d (by simp [hm])⟩
theorem prune_mem : ∀ (env : Env) (seen : List Nat) (t : Nat) (d : D), (t, d) ∈ prune seen env → seen.contains t = false ∧ env.lookup t = some d
  | [], seen, t, d, h => by simp [prune] at h
  | (s, e) :: r, seen, t, d, h => by
    simp only [prune] at h
    rw [List.lookup_cons]
    cases hs : seen.contains s with
    | true =>
      simp only [hs, cond_true] at h
      obtain ⟨h1, h2⟩ := prune_mem r seen t d h
      refine ⟨h1, ?_⟩
      have : (t == s) = false := by
        cases hts : t == s
        · rfl
        · have : t = s := by simpa using hts
          subst this; rw [h1] at hs; cases hs
      simp [this, h2]
    | false =>
      simp only [hs, cond_false, List.mem_cons] at h
      rcases h with h | h
      · injection h with h1 h2; subst h1; subst h2
        exact ⟨hs, by simp⟩
      · obtain ⟨h1, h2⟩ := prune_mem r (s :: seen) t d h
        simp only [List.contains_cons, Bool.or_eq_false_iff] at h1
        exact ⟨h1.2, by simp [h1.1, h2]⟩
theorem has_prune (env : Env) : Has env (prune [] env) := has_of fun t d h => (prune_mem env [] t d h).2
def evOp (P : Program) (call : Callee) (T : Tbl) (o : Oper) (env : Env) (H : Heap) : Option (D × Heap × Tch) :=
  match o.op with
  | .call { callee := .value f, args, argTypes } => match opnd env f, getAll env args.toList with
    | some (.fn g k caps), some ds => call g (argsOf k caps ds) H
    | _, _ => none
  | .call { callee := .invoke r name, args, argTypes } => match opnd env r, getAll env args.toList with
    | some (.ifc t d), some ds => match methOf P t name with
      | some g => call g (d :: ds) H
      | none => none
    | _, _ => none
  | op => match opP T env op with
    | some (d, _) => bif opPB T env op then some (d, H, .no) else none
    | none => match opH T env H op with
      | some out => bif opHB T env H op then some (out.d, out.H, out.touch) else none
      | none => none
def evOps (P : Program) (call : Callee) (T : Tbl) (ops : Array Oper) : List Oper → Env → Heap → List Tch → Option (Env × Heap × List Tch)
  | [], env, H, ts => some (env, H, ts)
  | o :: rest, env, H, ts =>
    match o.guard with
    | none => match evOp P call T o env H with
      | some (d, H', t) => evOps P call T ops rest (bindD o.dst d env) H' (t :: ts)
      | none => none
    | some (j, want) => match gslot ops j with
      | none => none
      | some s => match env.lookup s with
        | some (.v (.bool g)) => bif g == want then
            (match evOp P call T o ((s, .v (.bool want)) :: env) H with
            | some (d, H', t) => evOps P call T ops rest (bindD o.dst d ((s, .v (.bool want)) :: env)) H' (t :: ts)
            | none => none)
          else evOps P call T ops rest (bindD o.dst (.v undef) ((s, .v (.bool (!want))) :: env)) H (.no :: ts)
        | some (.v (.tuple us)) => match us.toList with
          | [] => evOps P call T ops rest (bindD o.dst (.v undef) env) H (.no :: ts)
          | _ => none
        | _ => none
def evIter (body : Env → Heap → Option (Exit × Env × Heap)) : Nat → Env → Heap → Option (Exit × Env × Heap)
  | 0, _, _ => none
  | n + 1, env, H => match body env H with
    | some (.normal, env', H') => evIter body n (prune [] env') H'
    | r => r
def evC (P : Program) (call : Callee) (T : Tbl) (N : Nat) : Code → Env → Heap → Option (Exit × Env × Heap)
  | .skip, env, H => some (.normal, env, H)
  | .region id ops draw, env, H => match evOps P call T ops ops.toList env H [] with
    | some (env', H', ts) => bif !draw || regOk ops ts.reverse then some (.normal, env', H') else none
    | none => none
  | .seq a b, env, H => match evC P call T N a env H with
    | some (.normal, env', H') => evC P call T N b env' H'
    | r => r
  | .cond c x y, env, H => match opnd env c with
    | some (.v (.bool true)) => evC P call T N x env H
    | some (.v (.bool false)) => evC P call T N y env H
    | _ => none
  | .block id c, env, H => match evC P call T N c env H with
    | some (.exit id', env', H') => if id' = id then some (.normal, env', H') else some (.exit id', env', H')
    | r => r
  | .exit id, env, H => some (.exit id, env, H)
  | .ret, env, H => some (.ret, env, H)
  | .label _, env, H => some (.normal, env, H)
  | .goto l, env, H => some (.goto l, env, H)
  | .loop c, env, H => evIter (fun e h => evC P call T N c e h) N (prune [] env) H
  | .scope c, env, H => match evC P call T N c env H with
    | some (.goto _, _, _) => none
    | r => r
  | _, _, _ => none
def resB (T : Tbl) (env : Env) (H : Heap) : List ResultVar → Bool
  | [] => true
  | .tmp t :: r => resB T env H r
  | .cell a ty :: r => match env.lookup a with
    | some (.ptr b off) => match blkAt H b, T ty with
      | some blk, some ti => partB ti blk.cs off && resB T env H r
      | _, _ => false
    | _ => false
theorem resB_ok {T : Tbl} {env : Env} {H : Heap} : ∀ {rs : List ResultVar} {ds : List D} {c : Prop}, resD T env H rs = some (ds, c) → resB T env H rs = true → c
  | [], ds, c, h, hb => by simp only [resD] at h; obtain ⟨_, rfl⟩ := pair_inj h; trivial
  | .tmp t :: r, ds, c, h, hb => by
    simp only [resD] at h
    split at h
    · rename_i h2
      obtain ⟨_, rfl⟩ := pair_inj h
      exact resB_ok h2 (by simpa only [resB] using hb)
    · cases h
  | .cell a ty :: r, ds, c, h, hb => by
    simp only [resD] at h
    split at h
    · rename_i h1 h2
      split at h
      · rename_i h3 h4
        obtain ⟨_, rfl⟩ := pair_inj h
        simp only [resB, h1, h3, h4, Bool.and_eq_true] at hb
        exact ⟨partB_ok hb.1, resB_ok h2 hb.2⟩
      · cases h
    · cases h
def evRes (T : Tbl) (rs : List ResultVar) : Option (Exit × Env × Heap) → Option (D × Heap)
  | some (.normal, env, H) => match resD T env H rs with
    | some (ds, _) => bif resB T env H rs then some (retD ds, H) else none
    | none => none
  | some (.ret, env, H) => match resD T env H rs with
    | some (ds, _) => bif resB T env H rs then some (retD ds, H) else none
    | none => none
  | _ => none
def isScalar (T : Tbl) (t : TypeId) : Bool := match T t with
  | some ⟨.int _, _, _, _⟩ => true
  | some ⟨.bool, _, _, _⟩ => true
  | some ⟨.str, _, _, _⟩ => true
  | _ => false
def lendB (T : Tbl) (fn : Func) (H : Heap) (ds : List D) : Bool := fn.resultTypes.toList.all (isScalar T) && sealLB H ds
def lent (T : Tbl) (rs : List ResultVar) (ds : Option (List D × Prop)) (run : List D → Option (Exit × Env × Heap)) : Option D :=
  match ds with
  | some (ds', _) => match evRes T rs (run ds') with
    | some (d, _) => bif scalarB d && namelessLB ds' then some d else none
    | none => none
  | none => none
def evF (P : Program) (T : Tbl) (N : Nat) (base : Callee) : Nat → Callee
  | 0, _, _, _ => none
  | n + 1, f, ds, H => match base f ds H with
    | some r => some r
    | none => match P.funcs[f]? with
    | some fn => match fn.body with
      | some c => bif !(fn.name == "runtime.NumGoroutine") && (codeOk fn.ntmps c && decide (ds.length ≤ fn.ntmps)) then
          (bif namelessLB ds then
            (match evRes T fn.results.toList (evC P (evF P T N base n) T N c (envOf 0 ds) []) with
            | some (d, H1) => bif namelessB d then some (d, H, .no) else some (shD H.length d, H ++ shH H.length H1, .mk H.length)
            | none => none)
          else (match (bif lendB T fn H ds then lent T fn.results.toList (sealL H ds) (fun ds' => evC P (evF P T N base n) T N c (envOf 0 ds') []) else none) with
            | some d => some (d, H, .ra)
            | none => match evRes T fn.results.toList (evC P (evF P T N base n) T N c (envOf 0 ds) H) with
              | some (d, H1) => some (d, H1, .al)
              | none => none))
        else none
      | none => none
    | none => none
section
variable {P : Program} {T : Tbl} (hT : TblOk P T) {nt N : Nat} {call : Callee}
def CallOk (P : Program) (call : Callee) : Prop := ∀ g ds H d H' (t : Tch), call g ds H = some (d, H', t) → ∀ K : D → Heap → Tch → Prop, K d H' t → VCall P g ds H K
theorem evOp_ok (hc : CallOk P call) {o : Oper} {env : Env} {H H' : Heap} {d : D} {t : Tch} (h : evOp P call T o env H = some (d, H', t)) {K : D → Heap → Tch → Prop} (hk : K d H' t) : vOp P T o env H K := by
  have rest : (match opP T env o.op with
    | some (d, _) => bif opPB T env o.op then some (d, H, .no) else none
    | none => match opH T env H o.op with
      | some out => bif opHB T env H o.op then some (out.d, out.H, out.touch) else none
      | none => none) = some (d, H', t) → (match opP T env o.op with
    | some (d, c) => c ∧ K d H .no
    | none => match opH T env H o.op with
      | some out => out.c ∧ K out.d out.H out.touch
      | none => False) := by
    intro h
    split at h
    · rename_i d' c' hp
      cases hb : opPB T env o.op with
      | false => simp [hb] at h
      | true =>
        simp only [hb, cond_true, Option.some.injEq, Prod.mk.injEq] at h
        obtain ⟨rfl, rfl, rfl⟩ := h
        exact ⟨opPB_ok hp hb, hk⟩
    · split at h
      · rename_i out ho
        cases hb : opHB T env H o.op with
        | false => simp [hb] at h
        | true =>
          simp only [hb, cond_true, Option.some.injEq, Prod.mk.injEq] at h
          obtain ⟨rfl, rfl, rfl⟩ := h
          exact ⟨opHB_ok ho hb, hk⟩
      · cases h
  unfold vOp
  split
  · rename_i f args ts hop
    simp only [evOp, hop] at h
    split at h
    · rename_i g k caps ds hf ha
      simp only [hf, ha]
      exact hc _ _ _ _ _ _ h K hk
    · cases h
  · rename_i r name args ts hop
    simp only [evOp, hop] at h
    split at h
    · rename_i t d ds hf ha
      split at h
      · rename_i g hm
        simp only [hf, ha, hm]
        exact hc _ _ _ _ _ _ h K hk
      · cases h
    · cases h
  · rename_i hne hne2
    unfold evOp at h
    split at h
    · rename_i hop
      exact absurd hop (hne _ _ _)
    · rename_i hop
      exact absurd hop (hne2 _ _ _ _)
    · exact rest h
theorem evOps_ok (hc : CallOk P call) {ops : Array Oper} : ∀ (l : List Oper) (env : Env) (H : Heap) (ts : List Tch) (env' : Env) (H' : Heap) (ts' : List Tch) (K : Env → Heap → List Tch → Prop),
    evOps P call T ops l env H ts = some (env', H', ts') → K env' H' ts' → vOps P T ops l env H ts K
  | [], env, H, ts, env', H', ts', K, h, hk => by
    simp only [evOps, Option.some.injEq, Prod.mk.injEq] at h
    obtain ⟨rfl, rfl, rfl⟩ := h
    exact hk
  | o :: rest, env, H, ts, env', H', ts', K, h, hk => by
    simp only [evOps] at h
    simp only [vOps]
    split at h
    · rename_i hg
      simp only [hg]
      split at h
      · rename_i d H1 t he
        refine evOp_ok hc he ?_; exact evOps_ok hc rest _ _ _ _ _ _ K h hk
      · cases h
    · rename_i j want hg
      split at h
      · cases h
      · rename_i s hs
        split at h
        · rename_i g hl
          simp only [hg, hs, hl]
          cases hgw : (g == want) with
          | true =>
            have e : g = want := by simpa using hgw
            subst e
            simp only [hgw, cond_true] at h
            refine ⟨fun _ => ?_, fun e => absurd e (by cases g <;> simp)⟩
            split at h
            · rename_i d H1 t he
              refine evOp_ok hc he ?_; exact evOps_ok hc rest _ _ _ _ _ _ K h hk
            · cases h
          | false =>
            simp only [hgw, cond_false] at h
            exact ⟨fun e => absurd e (by simpa using hgw), fun _ => evOps_ok hc rest _ _ _ _ _ _ K h hk⟩
        · rename_i us hl
          simp only [hg, hs, hl]
          split at h
          · rename_i hu
            exact ⟨hu, evOps_ok hc rest _ _ _ _ _ _ K h hk⟩
          · cases h
        · cases h
theorem evIter_ok {c : Code} {body : Env → Heap → Option (Exit × Env × Heap)} (hb : ∀ env H e env' H', body env H = some (e, env', H') → ∀ Q : Exit → Env → Heap → Prop, Q e env' H' → DW P nt c Q env H) {n : Nat} {env : Env} {H : Heap} {e : Exit} {env' : Env} {H' : Heap}
    (h : evIter body n (prune [] env) H = some (e, env', H')) {Q : Exit → Env → Heap → Prop} (hq : Q e env' H') : DW P nt (.loop c) Q env H := by
  refine DW.loop (fun x : Nat × Env × Heap => evIter body x.1 x.2.1 x.2.2 = some (e, env', H')) (fun x => x.2.1) (fun x => x.2.2) (fun x => x.1) (n, prune [] env, H) h (has_prune env) rfl ?_
  rintro ⟨m, en, hp⟩ hx
  simp only at hx ⊢
  cases m with
  | zero => simp [evIter] at hx
  | succ m =>
    simp only [evIter] at hx
    split at hx
    · rename_i env1 H1 h1
      exact hb _ _ _ _ _ h1 _ ⟨(m, prune [] env1, H1), by simp, hx, has_prune env1, rfl⟩
    · rename_i hne
      cases e with
      | normal => exact absurd hx (fun h => hne _ _ h)
      | _ => exact hb _ _ _ _ _ hx _ hq
include hT in
theorem evC_ok (hm : P.follows .mixedOrders = true) (hc : CallOk P call) : ∀ (c : Code) (env : Env) (H : Heap) (e : Exit) (env' : Env) (H' : Heap), codeOk nt c = true → evC P call T N c env H = some (e, env', H') →
    ∀ Q : Exit → Env → Heap → Prop, Q e env' H' → DW P nt c Q env H
  | .skip, env, H, e, env', H', ho, h, Q, hq => by
    simp only [evC, Option.some.injEq, Prod.mk.injEq] at h
    obtain ⟨rfl, rfl, rfl⟩ := h
    exact vcg_sound hT hm .skip Q _ _ ho hq
  | .region id ops draw, env, H, e, env', H', ho, h, Q, hq => by
    simp only [evC] at h
    split at h
    · rename_i env1 H1 ts h1
      cases hb : (!draw || regOk ops ts.reverse) with
      | false => simp [hb] at h
      | true =>
        simp only [hb, cond_true, Option.some.injEq, Prod.mk.injEq] at h
        obtain ⟨rfl, rfl, rfl⟩ := h
        refine vcg_sound hT hm (.region id ops draw) Q _ _ ho ?_
        exact evOps_ok hc _ _ _ _ _ _ _ _ h1 ⟨fun hd => by simpa [hd] using hb, hq⟩
    · cases h
  | .seq a b, env, H, e, env', H', ho, h, Q, hq => by
    simp only [codeOk, Bool.and_eq_true] at ho
    simp only [evC] at h
    intro ρ S w ac hi
    split at h
    · rename_i env1 H1 h1
      refine wp_seq (wp_mono (evC_ok hm hc a env H _ _ _ ho.1 h1 (fun e1 en1 hh1 => e1 = .normal ∧ DW P nt b Q en1 hh1) ⟨rfl, evC_ok hm hc b env1 H1 _ _ _ ho.2 h Q hq⟩ ρ S w ac hi) ?_)
      rintro e1 a1 w1 ⟨en, hh, ρ1, S1, ⟨rfl, hd⟩, hi1, hle⟩
      refine wp_mono (hd ρ1 S1 w1 a1 hi1) ?_
      rintro e2 a2 w2 ⟨en2, hh2, ρ2, S2, h4, h5, h6⟩
      exact ⟨en2, hh2, ρ2, S2, h4, h5, hle.trans h6⟩
    · rename_i hne
      refine wp_seq (wp_mono (evC_ok hm hc a env H _ _ _ ho.1 h (fun e1 en1 hh1 => e1 ≠ .normal ∧ Q e1 en1 hh1) ⟨fun he => by subst he; exact hne _ _ h, hq⟩ ρ S w ac hi) ?_)
      rintro e1 a1 w1 ⟨en, hh, ρ1, S1, ⟨hn, hd⟩, hi1, hle⟩
      cases e1 with
      | normal => exact absurd rfl hn
      | _ => exact ⟨en, hh, ρ1, S1, hd, hi1, hle⟩
  | .cond c x y, env, H, e, env', H', ho, h, Q, hq => by
    simp only [codeOk, Bool.and_eq_true] at ho
    simp only [evC] at h
    intro ρ S w ac hi
    split at h
    · rename_i hb
      have hv := get_rd hi.st.glob hi.env c _ hb
      simp only [Rd] at hv
      exact wp_cond hv (evC_ok hm hc x env H _ _ _ ho.1 h Q hq ρ S w ac hi)
    · rename_i hb
      have hv := get_rd hi.st.glob hi.env c _ hb
      simp only [Rd] at hv
      exact wp_cond hv (evC_ok hm hc y env H _ _ _ ho.2 h Q hq ρ S w ac hi)
    · cases h
  | .block id c, env, H, e, env', H', ho, h, Q, hq => by
    simp only [codeOk] at ho
    simp only [evC] at h
    intro ρ S w ac hi
    split at h
    · rename_i id' env1 H1 h1
      refine wp_block (wp_mono (evC_ok hm hc c env H _ _ _ ho h1 (fun e1 en1 hh1 => e1 = .exit id' ∧ en1 = env1 ∧ hh1 = H1) ⟨rfl, rfl, rfl⟩ ρ S w ac hi) ?_)
      rintro e1 a1 w1 ⟨en, hh, ρ1, S1, ⟨rfl, rfl, rfl⟩, hi1, hle⟩
      simp only [Exit.inBlock]
      split at h
      · rename_i he
        simp only [Option.some.injEq, Prod.mk.injEq] at h
        obtain ⟨rfl, rfl, rfl⟩ := h
        rw [if_pos he]; exact ⟨_, _, ρ1, S1, hq, hi1, hle⟩
      · rename_i he
        simp only [Option.some.injEq, Prod.mk.injEq] at h
        obtain ⟨rfl, rfl, rfl⟩ := h
        rw [if_neg he]; exact ⟨_, _, ρ1, S1, hq, hi1, hle⟩
    · rename_i hne
      refine wp_block (wp_mono (evC_ok hm hc c env H _ _ _ ho h (fun e1 en1 hh1 => e1 = e ∧ en1 = env' ∧ hh1 = H') ⟨rfl, rfl, rfl⟩ ρ S w ac hi) ?_)
      rintro e1 a1 w1 ⟨en, hh, ρ1, S1, ⟨rfl, rfl, rfl⟩, hi1, hle⟩
      cases e1 with
      | exit id' => exact absurd h (fun h => hne _ _ _ h)
      | _ => exact ⟨_, _, ρ1, S1, hq, hi1, hle⟩
  | .exit id, env, H, e, env', H', ho, h, Q, hq => by
    simp only [evC, Option.some.injEq, Prod.mk.injEq] at h
    obtain ⟨rfl, rfl, rfl⟩ := h
    exact vcg_sound hT hm (.exit id) Q _ _ ho hq
  | .ret, env, H, e, env', H', ho, h, Q, hq => by
    simp only [evC, Option.some.injEq, Prod.mk.injEq] at h
    obtain ⟨rfl, rfl, rfl⟩ := h
    exact vcg_sound hT hm .ret Q _ _ ho hq
  | .label l, env, H, e, env', H', ho, h, Q, hq => by
    simp only [evC, Option.some.injEq, Prod.mk.injEq] at h
    obtain ⟨rfl, rfl, rfl⟩ := h
    exact vcg_sound hT hm (.label l) Q _ _ ho hq
  | .goto l, env, H, e, env', H', ho, h, Q, hq => by
    simp only [evC, Option.some.injEq, Prod.mk.injEq] at h
    obtain ⟨rfl, rfl, rfl⟩ := h
    exact vcg_sound hT hm (.goto l) Q _ _ ho hq
  | .loop c, env, H, e, env', H', ho, h, Q, hq => by
    simp only [codeOk] at ho
    simp only [evC] at h
    exact evIter_ok (fun env H e env' H' hb Q hq => evC_ok hm hc c env H e env' H' ho hb Q hq) h hq
  | .refuse .., env, H, e, env', H', ho, h, Q, hq => by simp [evC] at h
  | .scope c, env, H, e, env', H', ho, h, Q, hq => by
    simp only [codeOk] at ho
    simp only [evC] at h
    split at h
    · cases h
    · rename_i hne
      intro ρ S w ac hi
      refine wp_scope_straight (wp_mono (evC_ok hm hc c env H _ _ _ ho h (fun e1 en1 hh1 => e1 = e ∧ en1 = env' ∧ hh1 = H') ⟨rfl, rfl, rfl⟩ ρ S w ac hi) ?_)
      rintro e1 a1 w1 ⟨en, hh, ρ1, S1, ⟨rfl, rfl, rfl⟩, hi1, hle⟩
      cases e1 with
      | goto l => exact absurd h (fun h => hne _ _ _ h)
      | _ => exact ⟨_, _, ρ1, S1, hq, hi1, hle⟩
  | .rangeFunc .., env, H, e, env', H', ho, h, Q, hq => by simp [evC] at h
include hT in
theorem evF_ok (hm : P.follows .mixedOrders = true) {base : Callee} (hbase : CallOk P base) : ∀ n, CallOk P (evF P T N base n)
  | 0, g, ds, H, d, H', t, h, K, hk => by simp [evF] at h
  | n + 1, g, ds, H, d, H', t, h, K, hk => by
    simp only [evF] at h
    split at h
    · rename_i r hr
      injection h with h; subst h
      exact hbase _ _ _ _ _ _ hr K hk
    split at h
    · rename_i fn hf
      split at h
      · rename_i c hb
        cases hck : (!(fn.name == "runtime.NumGoroutine") && (codeOk fn.ntmps c && decide (ds.length ≤ fn.ntmps))) with
        | false => simp [hck] at h
        | true =>
          simp only [hck, cond_true] at h
          simp only [Bool.and_eq_true, Bool.not_eq_true', decide_eq_true_eq] at hck
          obtain ⟨hname, hok, hlen⟩ := hck
          have main : ∀ (ds : List D) (H0 : Heap) (d1 : D) (H1 : Heap), ds.length ≤ fn.ntmps → evRes T fn.results.toList (evC P (evF P T N base n) T N c (envOf 0 ds) H0) = some (d1, H1) → ∀ (d2 : D) (H2 : Heap), Fin ds H0 d1 H1 d2 H2 → CallJ P g ds H0 d2 H2 := by
            intro ds H0 d1 H1 hlen he d2 H2 hfin
            refine callJ_of_dw hT hf hb hname hlen ?_
            cases hev : evC P (evF P T N base n) T N c (envOf 0 ds) H0 with
            | none => simp [hev, evRes] at he
            | some r =>
              obtain ⟨e, env', H'⟩ := r
              refine evC_ok hT hm (evF_ok hm hbase n) c _ _ _ _ _ hok hev _ ?_
              rw [hev] at he
              have fin : (match resD T env' H' fn.results.toList with
                  | some (ds, _) => bif resB T env' H' fn.results.toList then some (retD ds, H') else none
                  | none => none) = some (d1, H1) → (match resD T env' H' fn.results.toList with | some (ds', c) => c ∧ Fin ds H0 (retD ds') H' d2 H2 | none => False) := by
                intro h
                split at h
                · rename_i ds' c' hr
                  cases hrb : resB T env' H' fn.results.toList with
                  | false => simp [hrb] at h
                  | true =>
                    simp only [hrb, cond_true, Option.some.injEq, Prod.mk.injEq] at h
                    obtain ⟨rfl, rfl⟩ := h
                    exact ⟨resB_ok hr hrb, hfin⟩
                · cases h
              cases e with
              | normal => exact fin he
              | ret => exact fin he
              | _ => simp [evRes] at he
          cases hn : namelessLB ds with
          | true =>
            simp only [hn, cond_true] at h
            split at h
            · rename_i d1 H1 he
              cases hnd : namelessB d1 with
              | true =>
                simp only [hnd, cond_true, Option.some.injEq, Prod.mk.injEq] at h
                obtain ⟨rfl, rfl, rfl⟩ := h
                exact .pure _ (PureJ.of_nil (namelessLB_ok _ hn) (namelessB_ok _ hnd) (main ds [] _ _ hlen he _ _ (fin_drop (namelessB_ok _ hnd)))) hk
              | false =>
                simp only [hnd, cond_false, Option.some.injEq, Prod.mk.injEq] at h
                obtain ⟨rfl, rfl, rfl⟩ := h
                exact .makes _ _ (fun H1 e => by rw [← e]; exact (main ds [] _ _ hlen he _ _ fin_same).frame (namelessLB_ok _ hn) H1) hk
            · cases h
          | false =>
            simp only [hn, cond_false] at h
            split at h
            · rename_i d1 hl
              simp only [Option.some.injEq, Prod.mk.injEq] at h
              obtain ⟨rfl, rfl, rfl⟩ := h
              cases hck : lendB T fn H ds with
              | false => simp [hck] at hl
              | true =>
                simp only [hck, cond_true] at hl
                simp only [lendB, Bool.and_eq_true] at hck
                unfold lent at hl
                split at hl
                · rename_i ds' c' hs
                  split at hl
                  · rename_i d0 H1 he
                    cases hsc : (scalarB d0 && namelessLB ds') with
                    | false => simp [hsc] at hl
                    | true =>
                      simp only [hsc, cond_true, Option.some.injEq] at hl
                      subst hl
                      simp only [Bool.and_eq_true] at hsc
                      have hl' : ds'.length ≤ fn.ntmps := by rw [sealL_length hs]; exact hlen
                      have hnd : Nameless d0 := scalarB_nameless hsc.1
                      exact .reads _ ((PureJ.of_nil (namelessLB_ok _ hsc.2) hnd (main ds' [] _ _ hl' he _ _ (fin_drop hnd))).borrow hs (sealLB_ok _ _ _ hs hck.2) hsc.1) hk
                  · cases hl
                · cases hl
            · split at h
              · rename_i d1 H1 he
                simp only [Option.some.injEq, Prod.mk.injEq] at h
                obtain ⟨rfl, rfl, rfl⟩ := h
                exact .own _ _ (main ds H _ _ hlen he _ _ fin_same) hk
              · cases h
      · cases h
    · cases h
include hT in
theorem evF_main (hm : P.follows .mixedOrders = true) {base : Callee} (hbase : CallOk P base) {n : Nat} {g : FuncId} {fn : Func} {c : Code} (hf : P.funcs[g]? = some fn) (hb : fn.body = some c) (hname : (fn.name == "runtime.NumGoroutine") = false) (hok : codeOk fn.ntmps c = true) :
    ∀ (ds : List D) (H0 : Heap) (d1 : D) (H1 : Heap), ds.length ≤ fn.ntmps → evRes T fn.results.toList (evC P (evF P T N base n) T N c (envOf 0 ds) H0) = some (d1, H1) → ∀ (d2 : D) (H2 : Heap), Fin ds H0 d1 H1 d2 H2 → CallJ P g ds H0 d2 H2 := by
  intro ds H0 d1 H1 hlen he d2 H2 hfin
  refine callJ_of_dw hT hf hb hname hlen ?_
  cases hev : evC P (evF P T N base n) T N c (envOf 0 ds) H0 with
  | none => simp [hev, evRes] at he
  | some r =>
    obtain ⟨e, env', H'⟩ := r
    refine evC_ok hT hm (evF_ok hT hm hbase n) c _ _ _ _ _ hok hev _ ?_
    rw [hev] at he
    have fin : (match resD T env' H' fn.results.toList with
        | some (ds, _) => bif resB T env' H' fn.results.toList then some (retD ds, H') else none
        | none => none) = some (d1, H1) → (match resD T env' H' fn.results.toList with | some (ds', c) => c ∧ Fin ds H0 (retD ds') H' d2 H2 | none => False) := by
      intro h
      split at h
      · rename_i ds' c' hr
        cases hrb : resB T env' H' fn.results.toList with
        | false => simp [hrb] at h
        | true =>
          simp only [hrb, cond_true, Option.some.injEq, Prod.mk.injEq] at h
          obtain ⟨rfl, rfl⟩ := h
          exact ⟨resB_ok hr hrb, hfin⟩
      · cases h
    cases e with
    | normal => exact fin he
    | ret => exact fin he
    | _ => simp [evRes] at he
def evTop (P : Program) (T : Tbl) (N : Nat) (base : Callee) (n : Nat) (fn : Func) (c : Code) (ds : List D) : Option D :=
  bif !(fn.name == "runtime.NumGoroutine") && (codeOk fn.ntmps c && (decide (ds.length ≤ fn.ntmps) && namelessLB ds)) then
    (match evRes T fn.results.toList (evC P (evF P T N base n) T N c (envOf 0 ds) []) with
    | some (d, H1) => bif namelessB d then some d else none
    | none => none)
  else none
include hT in
theorem pure_of_ev (hm : P.follows .mixedOrders = true) {base : Callee} (hbase : CallOk P base) {n : Nat} {f : FuncId} {fn : Func} {c : Code} {ds : List D} {d : D} (hf : P.funcs[f]? = some fn) (hb : fn.body = some c) (h : evTop P T N base n fn c ds = some d) : PureJ P f ds d := by
  unfold evTop at h
  cases hck : (!(fn.name == "runtime.NumGoroutine") && (codeOk fn.ntmps c && (decide (ds.length ≤ fn.ntmps) && namelessLB ds))) with
  | false => simp [hck] at h
  | true =>
    simp only [hck, cond_true] at h
    simp only [Bool.and_eq_true, Bool.not_eq_true', decide_eq_true_eq] at hck
    obtain ⟨hname, hok, hlen, hn⟩ := hck
    split at h
    · rename_i d1 H1 he
      cases hnd : namelessB d1 with
      | false => rw [hnd] at h; cases h
      | true =>
        rw [hnd] at h
        injection h with h; subst h
        exact PureJ.of_nil (namelessLB_ok _ hn) (namelessB_ok _ hnd) (evF_main hT hm hbase hf hb hname hok ds [] _ _ hlen he _ _ (fin_drop (namelessB_ok _ hnd)))
    · cases h
theorem callOk_none : CallOk P (fun _ _ _ => none) := fun g ds H d H' t h => by cases h
end
end Go.VD
end
section
namespace Go.VD
set_option linter.unusedVariables false
set_option linter.unusedSimpArgs false
abbrev CallO := FuncId → List D → Heap → (D → Heap → Tch → Prop) → Option Prop
def CallOK (P : Program) (call : CallO) : Prop := ∀ g ds H K p, call g ds H K = some p → p → VCall P g ds H K
def pcond (b : Bool) (X Y : Prop) : Prop := match b with
  | true => X
  | false => Y
theorem pcond_true (X Y : Prop) : pcond true X Y = X := rfl
theorem pcond_false (X Y : Prop) : pcond false X Y = Y := rfl
def xOp (P : Program) (call : CallO) (T : Tbl) (o : Oper) (env : Env) (H : Heap) (K : D → Heap → Tch → Prop) : Prop :=
  match o.op with
  | .call { callee := .value f, args, argTypes } => match opnd env f, getAll env args.toList with
    | some (.fn g k caps), some ds => match call g (argsOf k caps ds) H K with
      | some p => p
      | none => False
    | _, _ => False
  | .call { callee := .invoke r name, args, argTypes } => match opnd env r, getAll env args.toList with
    | some (.ifc t d), some ds => match methOf P t name with
      | some g => match call g (d :: ds) H K with
        | some p => p
        | none => False
      | none => False
    | _, _ => False
  | op => match opP T env op with
    | some (d, c) => c ∧ K d H .no
    | none => match opH T env H op with
      | some out => out.c ∧ K out.d out.H out.touch
      | none => False
def xOps (P : Program) (call : CallO) (T : Tbl) (ops : Array Oper) : List Oper → Env → Heap → List Tch → (Env → Heap → List Tch → Prop) → Prop
  | [], env, H, ts, K => K env H ts
  | o :: rest, env, H, ts, K =>
    match o.guard with
    | none => xOp P call T o env H fun d H' t => xOps P call T ops rest (bindD o.dst d env) H' (t :: ts) K
    | some (j, want) => match gslot ops j with
      | none => False
      | some s => match env.lookup s with
        | some (.v (.bool g)) => match want with
          | true => pcond g (xOp P call T o ((s, .v (.bool true)) :: env) H fun d H' t => xOps P call T ops rest (bindD o.dst d ((s, .v (.bool true)) :: env)) H' (t :: ts) K)
              (xOps P call T ops rest (bindD o.dst (.v undef) ((s, .v (.bool false)) :: env)) H (.no :: ts) K)
          | false => pcond g (xOps P call T ops rest (bindD o.dst (.v undef) ((s, .v (.bool true)) :: env)) H (.no :: ts) K)
              (xOp P call T o ((s, .v (.bool false)) :: env) H fun d H' t => xOps P call T ops rest (bindD o.dst d ((s, .v (.bool false)) :: env)) H' (t :: ts) K)
        | some (.v (.tuple us)) => us.toList = [] ∧ xOps P call T ops rest (bindD o.dst (.v undef) env) H (.no :: ts) K
        | _ => False
abbrev LoopO := Env → Heap → (Exit → Env → Heap → Prop) → Prop
def firstReg : Code → Nat
  | .region id _ _ => id
  | .seq a _ => firstReg a
  | .cond _ a _ => firstReg a
  | .block _ c => firstReg c
  | .loop c => firstReg c
  | .scope c => firstReg c
  | _ => 0
def xLoop (body : (Exit → Env → Heap → Prop) → Env → Heap → Prop) : Nat → (Exit → Env → Heap → Prop) → Env → Heap → Prop
  | 0, _, _, _ => False
  | n + 1, Q, env, H => body (fun e env' H' => match e with
    | .normal => xLoop body n Q (prune [] env') H'
    | e => Q e env' H') env H
def scopeQ (Q : Exit → Env → Heap → Prop) : Exit → Env → Heap → Prop
  | .goto _, _, _ => False
  | e, env, H => Q e env H
def vcx (P : Program) (call : CallO) (lp : Nat → Option LoopO) (T : Tbl) (N : Nat) : Code → (Exit → Env → Heap → Prop) → Env → Heap → Prop
  | .skip, Q, env, H => Q .normal env H
  | .region id ops draw, Q, env, H => xOps P call T ops ops.toList env H [] fun env' H' ts => pcond draw (regOk ops ts.reverse = true ∧ Q .normal env' H') (Q .normal env' H')
  | .seq a b, Q, env, H => vcx P call lp T N a (thenQ (fun env' H' => vcx P call lp T N b Q env' H') Q) env H
  | .cond c x y, Q, env, H => match opnd env c with
    | some (.v (.bool b)) => pcond b (vcx P call lp T N x Q env H) (vcx P call lp T N y Q env H)
    | _ => False
  | .block id c, Q, env, H => vcx P call lp T N c (blockQ id Q) env H
  | .exit id, Q, env, H => Q (.exit id) env H
  | .ret, Q, env, H => Q .ret env H
  | .label _, Q, env, H => Q .normal env H
  | .goto l, Q, env, H => Q (.goto l) env H
  | .loop c, Q, env, H => match lp (firstReg c) with
    | some L => L env H Q
    | none => xLoop (fun Q env H => vcx P call lp T N c Q env H) N Q (prune [] env) H
  | .scope c, Q, env, H => vcx P call lp T N c (scopeQ Q) env H
  | _, _, _, _ => False
def loopsOf : Code → List Code
  | .seq a b => loopsOf a ++ loopsOf b
  | .cond _ a b => loopsOf a ++ loopsOf b
  | .block _ c => loopsOf c
  | .loop c => c :: loopsOf c
  | .scope c => loopsOf c
  | _ => []
def LRule (P : Program) (nt : Nat) (c : Code) (L : LoopO) : Prop := ∀ env H Q, L env H Q → DW P nt (.loop c) Q env H
def LpAll (P : Program) (nt : Nat) (lp : Nat → Option LoopO) : List Code → Prop
  | [] => True
  | c :: r => (match lp (firstReg c) with
    | some L => LRule P nt c L
    | none => True) ∧ LpAll P nt lp r
theorem LpAll.app {P : Program} {nt : Nat} {lp : Nat → Option LoopO} : ∀ {l r : List Code}, LpAll P nt lp (l ++ r) → LpAll P nt lp l ∧ LpAll P nt lp r
  | [], r, h => ⟨trivial, h⟩
  | c :: l, r, h => by
    simp only [List.cons_append, LpAll] at h ⊢
    exact ⟨⟨h.1, h.2.app.1⟩, h.2.app.2⟩
theorem LpAll.none {P : Program} {nt : Nat} : ∀ (l : List Code), LpAll P nt (fun _ => none) l
  | [] => trivial
  | c :: l => ⟨trivial, LpAll.none l⟩
section
variable {P : Program} {T : Tbl} (hT : TblOk P T) {nt N : Nat} {call : CallO} {lp : Nat → Option LoopO}
theorem cond_prop {b : Bool} {X Y : Prop} (h : pcond b X Y) : (b = true → X) ∧ (b = false → Y) := by
  cases b with
  | true => exact ⟨fun _ => h, fun e => nomatch e⟩
  | false => exact ⟨fun e => (nomatch e), fun _ => h⟩
theorem pcond_intro {b : Bool} {X Y : Prop} (h1 : b = true → X) (h2 : b = false → Y) : pcond b X Y := by
  cases b with
  | true => exact h1 rfl
  | false => exact h2 rfl
theorem xOp_ok (hc : CallOK P call) {o : Oper} {env : Env} {H : Heap} {K : D → Heap → Tch → Prop} (h : xOp P call T o env H K) : vOp P T o env H K := by
  unfold vOp
  split
  · rename_i f args ts hop
    simp only [xOp, hop] at h
    split at h
    · rename_i g k caps ds hf ha
      split at h
      · rename_i p ho
        simp only [hf, ha]
        exact hc g (argsOf k caps ds) H K p ho h
      · exact h.elim
    · exact h.elim
  · rename_i r name args ts hop
    simp only [xOp, hop] at h
    split at h
    · rename_i t d ds hf ha
      split at h
      · rename_i g hm
        split at h
        · rename_i p ho
          simp only [hf, ha, hm]
          exact hc g (d :: ds) H K p ho h
        · exact h.elim
      · exact h.elim
    · exact h.elim
  · rename_i hne hne2
    unfold xOp at h
    split at h
    · rename_i hop
      exact absurd hop (hne _ _ _)
    · rename_i hop
      exact absurd hop (hne2 _ _ _ _)
    · exact h
theorem xOps_ok (hc : CallOK P call) {ops : Array Oper} : ∀ (l : List Oper) (env : Env) (H : Heap) (ts : List Tch) (K : Env → Heap → List Tch → Prop), xOps P call T ops l env H ts K → vOps P T ops l env H ts K
  | [], env, H, ts, K, h => h
  | o :: rest, env, H, ts, K, h => by
    simp only [xOps] at h
    simp only [vOps]
    split at h
    · rename_i hg
      simp only [hg]
      exact vOp_mono (xOp_ok hc h) fun d H' t hh => xOps_ok hc rest _ _ _ _ hh
    · rename_i j want hg
      split at h
      · exact h.elim
      · rename_i s hs
        split at h
        · rename_i g hl
          simp only [hg, hs, hl]
          cases want with
          | true =>
            obtain ⟨h1, h2⟩ := cond_prop h
            exact ⟨fun e => vOp_mono (xOp_ok hc (h1 e)) fun d H' t hh => xOps_ok hc rest _ _ _ _ hh, fun e => xOps_ok hc rest _ _ _ _ (h2 e)⟩
          | false =>
            obtain ⟨h1, h2⟩ := cond_prop h
            exact ⟨fun e => vOp_mono (xOp_ok hc (h2 e)) fun d H' t hh => xOps_ok hc rest _ _ _ _ hh, fun e => xOps_ok hc rest _ _ _ _ (h1 e)⟩
        · rename_i us hl
          simp only [hg, hs, hl]
          exact ⟨h.1, xOps_ok hc rest _ _ _ _ h.2⟩
        · exact h.elim
theorem xLoop_ok {c : Code} {body : (Exit → Env → Heap → Prop) → Env → Heap → Prop} (hb : ∀ Q env H, body Q env H → DW P nt c Q env H) {n : Nat} {Q : Exit → Env → Heap → Prop} {env : Env} {H : Heap} (h : xLoop body n Q (prune [] env) H) : DW P nt (.loop c) Q env H := by
  refine DW.loop (fun x : Nat × Env × Heap => xLoop body x.1 Q x.2.1 x.2.2) (fun x => x.2.1) (fun x => x.2.2) (fun x => x.1) (n, prune [] env, H) h (has_prune env) rfl ?_
  rintro ⟨m, en, hp⟩ hx
  simp only at hx ⊢
  cases m with
  | zero => exact hx.elim
  | succ m =>
    refine (hb _ _ _ hx).mono fun e env' H' hh => ?_
    cases e with
    | normal => exact ⟨(m, prune [] env', H'), by simp, hh, has_prune env', rfl⟩
    | _ => exact hh
include hT
theorem vcx_sound (hm : P.follows .mixedOrders = true) (hc : CallOK P call) : ∀ (c : Code) (Q : Exit → Env → Heap → Prop) (env : Env) (H : Heap), codeOk nt c = true → LpAll P nt lp (loopsOf c) → vcx P call lp T N c Q env H → DW P nt c Q env H
  | .skip, Q, env, H, hok, _, h => vcg_sound hT hm .skip Q env H hok h
  | .region id ops draw, Q, env, H, hok, _, h => by
    refine region_sound hT hm hok (vOps_mono _ _ _ _ (fun env' H' ts hh => ?_) (xOps_ok hc _ _ _ _ _ h))
    cases draw with
    | true => exact ⟨fun _ => hh.1, hh.2⟩
    | false => exact ⟨fun e => (nomatch e), hh⟩
  | .seq a b, Q, env, H, hok, hl, h => by
    simp only [codeOk, Bool.and_eq_true] at hok
    obtain ⟨hl1, hl2⟩ := LpAll.app hl
    intro ρ S w ac hi
    refine wp_seq (wp_mono (vcx_sound hm hc a _ env H hok.1 hl1 h ρ S w ac hi) fun e a' w' ⟨env', H', ρ', S', h1, h2, h3⟩ => ?_)
    cases e with
    | normal =>
      refine wp_mono (vcx_sound hm hc b Q env' H' hok.2 hl2 h1 ρ' S' w' a' h2) fun e a'' w'' ⟨env'', H'', ρ'', S'', h4, h5, h6⟩ => ?_
      exact ⟨env'', H'', ρ'', S'', h4, h5, h3.trans h6⟩
    | _ => exact ⟨env', H', ρ', S', h1, h2, h3⟩
  | .cond c x y, Q, env, H, hok, hl, h => by
    simp only [codeOk, Bool.and_eq_true] at hok
    obtain ⟨hl1, hl2⟩ := LpAll.app hl
    intro ρ S w ac hi
    simp only [vcx] at h
    split at h
    · rename_i b hb
      have hv := get_rd hi.st.glob hi.env c _ hb
      simp only [Rd] at hv
      obtain ⟨h1, h2⟩ := cond_prop h
      cases b with
      | true => exact wp_cond hv (vcx_sound hm hc x Q env H hok.1 hl1 (h1 rfl) ρ S w ac hi)
      | false => exact wp_cond hv (vcx_sound hm hc y Q env H hok.2 hl2 (h2 rfl) ρ S w ac hi)
    · exact h.elim
  | .block id c, Q, env, H, hok, hl, h => by
    simp only [codeOk] at hok
    intro ρ S w ac hi
    refine wp_block (wp_mono (vcx_sound hm hc c _ env H hok hl h ρ S w ac hi) fun e a' w' ⟨env', H', ρ', S', h1, h2, h3⟩ => ?_)
    cases e with
    | exit id' =>
      simp only [blockQ] at h1
      simp only [Exit.inBlock]
      split
      · rename_i he; rw [if_pos he] at h1; exact ⟨env', H', ρ', S', h1, h2, h3⟩
      · rename_i he; rw [if_neg he] at h1; exact ⟨env', H', ρ', S', h1, h2, h3⟩
    | _ => exact ⟨env', H', ρ', S', h1, h2, h3⟩
  | .exit id, Q, env, H, hok, _, h => vcg_sound hT hm (.exit id) Q env H hok h
  | .ret, Q, env, H, hok, _, h => vcg_sound hT hm .ret Q env H hok h
  | .label l, Q, env, H, hok, _, h => vcg_sound hT hm (.label l) Q env H hok h
  | .goto l, Q, env, H, hok, _, h => vcg_sound hT hm (.goto l) Q env H hok h
  | .refuse _, _, _, _, _, _, h => h.elim
  | .scope c, Q, env, H, hok, hl, h => by
    simp only [codeOk] at hok
    intro ρ S w ac hi
    refine wp_scope_straight (wp_mono (vcx_sound hm hc c _ env H hok hl h ρ S w ac hi) fun e a' w' ⟨env', H', ρ', S', h1, h2, h3⟩ => ?_)
    cases e with
    | goto l => exact h1.elim
    | _ => exact ⟨env', H', ρ', S', h1, h2, h3⟩
  | .rangeFunc .., Q, env, H, _, _, h => h.elim
  | .loop c, Q, env, H, hok, hl, h => by
    simp only [codeOk] at hok
    simp only [loopsOf, LpAll] at hl
    simp only [vcx] at h
    cases hlp : lp (firstReg c) with
    | some L =>
      simp only [hlp] at h hl
      exact hl.1 env H Q h
    | none =>
      simp only [hlp] at h
      exact xLoop_ok (fun Q env H hh => vcx_sound hm hc c Q env H hok hl.2 hh) h
theorem callJ_of_vcx (hm : P.follows .mixedOrders = true) (hc : CallOK P call) {f : FuncId} {fn : Func} {c : Code} {ds : List D} {H H' : Heap} {d : D} (hf : P.funcs[f]? = some fn) (hb : fn.body = some c)
    (hname : (fn.name == "runtime.NumGoroutine") = false) (hok : codeOk fn.ntmps c = true) (hlen : decide (ds.length ≤ fn.ntmps) = true) (hl : LpAll P fn.ntmps lp (loopsOf c))
    (h : vcx P call lp T N c (retQ T fn.results.toList fun d1 H1 => Fin ds H d1 H1 d H') (envOf 0 ds) H) : CallJ P f ds H d H' :=
  callJ_of_dw hT hf hb hname (by simpa using hlen) (vcx_sound hT hm hc c _ _ _ hok hl h)
theorem pureJ_of_vcx (hm : P.follows .mixedOrders = true) (hc : CallOK P call) {f : FuncId} {fn : Func} {c : Code} {ds : List D} {d : D} (hf : P.funcs[f]? = some fn) (hb : fn.body = some c)
    (hname : (fn.name == "runtime.NumGoroutine") = false) (hok : codeOk fn.ntmps c = true) (hlen : decide (ds.length ≤ fn.ntmps) = true) (hl : LpAll P fn.ntmps lp (loopsOf c)) (h1 : NamelessL ds) (h2 : Nameless d)
    (h : vcx P call lp T N c (retQ T fn.results.toList fun d1 H1 => SealTo H1 d1 d) (envOf 0 ds) []) : PureJ P f ds d := by
  refine PureJ.of_nil h1 h2 (callJ_of_dw hT hf hb hname (by simpa using hlen) ((vcx_sound hT hm hc c _ _ _ hok hl h).mono fun e env H h => ?_))
  cases e <;> simp only [retQ] at h ⊢
  all_goals first
    | exact h.elim
    | (split at h
       · exact ⟨h.1, fin_seal h.2⟩
       · exact h.elim)
end
abbrev Ent := List D → Option (D × Prop)
def EntOk (P : Program) (g : FuncId) (e : Ent) : Prop := ∀ ds d c, e ds = some (d, c) → c → PureJ P g ds d
def pureO (e : Ent) (ds : List D) (H : Heap) : Option HOut := match e ds with
  | some (d, c) => some ⟨d, H, .no, c⟩
  | none => match sealL H ds with
    | some (ds', c') => match e ds' with
      | some (d, c) => bif scalarB d then some ⟨d, H, .ra, c' ∧ c⟩ else some ⟨d, dropN H (namesD.namesA ds), .al, c' ∧ c⟩
      | none => none
    | none => none
def outO (o : Option HOut) (K : D → Heap → Tch → Prop) : Option Prop := match o with
  | some out => some (out.c ∧ K out.d out.H out.touch)
  | none => none
def noCalls : CallO := fun _ _ _ _ => none
def addPure (f : FuncId) (e : Ent) (r : CallO) : CallO := fun g ds H K => bif Nat.beq g f then outO (pureO e ds H) K else r g ds H K
theorem noCalls_ok {P : Program} : CallOK P noCalls := fun g ds H K p h => by cases h
theorem addPure_ok {P : Program} {f : FuncId} {e : Ent} {r : CallO} (he : EntOk P f e) (hr : CallOK P r) : CallOK P (addPure f e r) := by
  intro g ds H K p h hp
  unfold addPure at h
  cases hg : Nat.beq g f with
  | false => rw [hg] at h; exact hr g ds H K p h hp
  | true =>
    rw [hg] at h
    have hgf : g = f := Nat.eq_of_beq_eq_true hg
    subst hgf
    simp only [cond_true] at h
    unfold outO at h
    split at h
    · rename_i out ho
      injection h with h; subst h
      obtain ⟨hc, hk⟩ := hp
      unfold pureO at ho
      split at ho
      · rename_i d c hd
        injection ho with ho; subst ho
        exact .pure d (he ds d c hd hc) hk
      · split at ho
        · rename_i ds' c' hs
          split at ho
          · rename_i d c hd
            cases hsc : scalarB d with
            | false =>
              rw [hsc] at ho
              injection ho with ho; subst ho
              exact .own d _ ((he ds' d c hd hc.2).hand hs hc.1) hk
            | true =>
              rw [hsc] at ho
              injection ho with ho; subst ho
              exact .reads d ((he ds' d c hd hc.2).borrow hs hc.1 hsc) hk
          · cases ho
        · cases ho
    · cases h
def addExt (f : FuncId) (e : Ent) (r : CallO) : CallO := fun g ds H K => bif Nat.beq g f then (match e ds with
  | some (d, c) => some (c ∧ K d H .no)
  | none => none) else r g ds H K
theorem addExt_ok {P : Program} {f : FuncId} {e : Ent} {r : CallO} (he : ∀ ds d c, e ds = some (d, c) → c → ExtJ P f ds d) (hr : CallOK P r) : CallOK P (addExt f e r) := by
  intro g ds H K p h hp
  unfold addExt at h
  cases hg : Nat.beq g f with
  | false => rw [hg] at h; exact hr g ds H K p h hp
  | true =>
    rw [hg] at h
    have hgf : g = f := Nat.eq_of_beq_eq_true hg
    subst hgf
    simp only [cond_true] at h
    split at h
    · rename_i d c hd
      injection h with h; subst h
      exact .ext d (he ds d c hd hp.1) hp.2
    · cases h
abbrev EntQ := List D → (D → Prop) → Option Prop
def EntQOk (P : Program) (g : FuncId) (e : EntQ) : Prop := ∀ ds K p, e ds K = some p → p → ∃ d, PureJ P g ds d ∧ K d
def addQ (f : FuncId) (e : EntQ) (r : CallO) : CallO := fun g ds H K => bif Nat.beq g f then e ds (fun d => K d H .no) else r g ds H K
theorem addQ_ok {P : Program} {f : FuncId} {e : EntQ} {r : CallO} (he : EntQOk P f e) (hr : CallOK P r) : CallOK P (addQ f e r) := by
  intro g ds H K p h hp
  unfold addQ at h
  cases hg : Nat.beq g f with
  | false => rw [hg] at h; exact hr g ds H K p h hp
  | true =>
    rw [hg] at h
    have hgf : g = f := Nat.eq_of_beq_eq_true hg
    subst hgf
    simp only [cond_true] at h
    obtain ⟨d, hd, hk⟩ := he ds _ p h hp
    exact .pure d hd hk
theorem of_eq {A B : Prop} (h : A = B) (b : B) : A := h.mpr b
end Go.VD
end
