import Derived.Test.YthnhfkpihbjddaaZKv4
import Derived.Test.YthnhfkpihbjddaaZKv5
import Derived.Laws.Externs
section
namespace Go.VD
set_option linter.unusedVariables false
set_option linter.unusedSimpArgs false
section
variable {T : Tbl} {t e : TypeId} {a b : Nat} {z : List Value} {cs : List D}
theorem TC.bool_inv (h : T t = some ⟨.bool, a, b, z⟩) (hc : TC T t cs) : ∃ x, cs = [.v (.bool x)] := by
  cases hc <;> simp_all
theorem TC.int_inv {k : IntKind} (h : T t = some ⟨.int k, a, b, z⟩) (hc : TC T t cs) : ∃ n, cs = [.v (.int k n)] ∧ (Lit.int k n).wf = true := by
  cases hc <;> simp_all
theorem TC.str_inv (h : T t = some ⟨.str, a, b, z⟩) (hc : TC T t cs) : ∃ s : ByteArray, cs = [.v (.string s)] ∧ s.size ≤ maxLen := by
  cases hc <;> simp_all
theorem TC.slice_inv (h : T t = some ⟨.slice e, a, b, z⟩) (hc : TC T t cs) : ∃ chunks : List (List D), cs = [.ro chunks.length chunks.flatten] ∧ chunks.length ≤ maxLen ∧ ∀ c ∈ chunks, TC T e c := by
  cases hc with
  | slice h' chunks hl hcc => rw [h] at h'; simp only [Option.some.injEq, TI.mk.injEq, TD.slice.injEq] at h'; obtain ⟨rfl, _⟩ := h'; exact ⟨chunks, rfl, hl, hcc⟩
  | _ => simp_all
theorem TC.arr_inv {n : Nat} (h : T t = some ⟨.arr n e, a, b, z⟩) (hc : TC T t cs) : ∃ chunks : List (List D), cs = chunks.flatten ∧ chunks.length = n ∧ ∀ c ∈ chunks, TC T e c := by
  cases hc with
  | arr h' chunks hl hcc => rw [h] at h'; simp only [Option.some.injEq, TI.mk.injEq, TD.arr.injEq] at h'; obtain ⟨⟨rfl, rfl⟩, _⟩ := h'; exact ⟨chunks, rfl, hl, hcc⟩
  | _ => simp_all
theorem TC.struct_inv {fs : List (Nat × TypeId)} (h : T t = some ⟨.struct fs, a, b, z⟩) (hc : TC T t cs) : ∃ parts : List (List D), cs = parts.flatten ∧ parts.length = fs.length ∧ ∀ (i : Nat) (p : List D) (f : Nat × TypeId), parts[i]? = some p → fs[i]? = some f → TC T f.2 p := by
  cases hc with
  | struct h' parts hl hp => rw [h] at h'; simp only [Option.some.injEq, TI.mk.injEq, TD.struct.injEq] at h'; obtain ⟨rfl, _⟩ := h'; exact ⟨parts, rfl, hl, hp⟩
  | _ => simp_all
def TFields (T : Tbl) : List (Nat × TypeId) → List D → Prop
  | [], cs => cs = []
  | f :: fs, cs => ∃ p r, cs = p ++ r ∧ TC T f.2 p ∧ TFields T fs r
theorem tfields_of : ∀ (fs : List (Nat × TypeId)) (parts : List (List D)), parts.length = fs.length → (∀ (i : Nat) (p : List D) (f : Nat × TypeId), parts[i]? = some p → fs[i]? = some f → TC T f.2 p) → TFields T fs parts.flatten
  | [], parts, hl, _ => by
    have : parts = [] := List.eq_nil_of_length_eq_zero hl
    subst this; simp [TFields]
  | f :: fs, [], hl, _ => by simp at hl
  | f :: fs, p :: parts, hl, h => by
    simp only [TFields, List.flatten_cons]
    exact ⟨p, parts.flatten, rfl, h 0 p f (by simp) (by simp), tfields_of fs parts (by simpa using hl) fun i p' f' hp hf => h (i + 1) p' f' (by simpa using hp) (by simpa using hf)⟩
theorem TC.fields {fs : List (Nat × TypeId)} (h : T t = some ⟨.struct fs, a, b, z⟩) (hc : TC T t cs) : TFields T fs cs := by
  obtain ⟨parts, rfl, hl, hp⟩ := hc.struct_inv h
  exact tfields_of fs parts hl hp
theorem TArgs.cons_inv {ts : List TypeId} {ds : List D} (h : TArgs T (t :: ts) ds) : ∃ d r, ds = d :: r ∧ (∃ ti cs, T t = some ti ∧ TC T t cs ∧ d = (if ti.td.isAgg then .agg cs else cs.headD default)) ∧ TArgs T ts r := h
theorem TArgs.nil_inv {ds : List D} (h : TArgs T [] ds) : ds = [] := h
theorem targ_struct {fs : List (Nat × TypeId)} {d : D} (h : T t = some ⟨.struct fs, a, b, z⟩) (hd : ∃ ti cs, T t = some ti ∧ TC T t cs ∧ d = (if ti.td.isAgg then .agg cs else cs.headD default)) : ∃ cs, d = .agg cs ∧ TFields T fs cs := by
  obtain ⟨ti, cs, h1, h2, h3⟩ := hd
  rw [h] at h1; injection h1 with h1; subst h1
  exact ⟨cs, h3, h2.fields h⟩
theorem targ_int {k : IntKind} {d : D} (h : T t = some ⟨.int k, a, b, z⟩) (hd : ∃ ti cs, T t = some ti ∧ TC T t cs ∧ d = (if ti.td.isAgg then .agg cs else cs.headD default)) : ∃ n, d = .v (.int k n) ∧ (Lit.int k n).wf = true := by
  obtain ⟨ti, cs, h1, h2, h3⟩ := hd
  rw [h] at h1; injection h1 with h1; subst h1
  obtain ⟨n, rfl, hw⟩ := h2.int_inv h
  exact ⟨n, h3, hw⟩
theorem targ_bool {d : D} (h : T t = some ⟨.bool, a, b, z⟩) (hd : ∃ ti cs, T t = some ti ∧ TC T t cs ∧ d = (if ti.td.isAgg then .agg cs else cs.headD default)) : ∃ x, d = .v (.bool x) := by
  obtain ⟨ti, cs, h1, h2, h3⟩ := hd
  rw [h] at h1; injection h1 with h1; subst h1
  obtain ⟨n, rfl⟩ := h2.bool_inv h
  exact ⟨n, h3⟩
theorem targ_str {d : D} (h : T t = some ⟨.str, a, b, z⟩) (hd : ∃ ti cs, T t = some ti ∧ TC T t cs ∧ d = (if ti.td.isAgg then .agg cs else cs.headD default)) : ∃ s : ByteArray, d = .v (.string s) ∧ s.size ≤ maxLen := by
  obtain ⟨ti, cs, h1, h2, h3⟩ := hd
  rw [h] at h1; injection h1 with h1; subst h1
  obtain ⟨s, rfl, hs⟩ := h2.str_inv h
  exact ⟨s, h3, hs⟩
theorem targ_slice {d : D} (h : T t = some ⟨.slice e, a, b, z⟩) (hd : ∃ ti cs, T t = some ti ∧ TC T t cs ∧ d = (if ti.td.isAgg then .agg cs else cs.headD default)) : ∃ chunks : List (List D), d = .ro chunks.length chunks.flatten ∧ chunks.length ≤ maxLen ∧ ∀ c ∈ chunks, TC T e c := by
  obtain ⟨ti, cs, h1, h2, h3⟩ := hd
  rw [h] at h1; injection h1 with h1; subst h1
  obtain ⟨chunks, rfl, hs, hc⟩ := h2.slice_inv h
  exact ⟨chunks, h3, hs, hc⟩
theorem wf_i64 {n : Int} (h : (Lit.int .i64 n).wf = true) : -9223372036854775808 ≤ n ∧ n < 9223372036854775808 := by
  simp [Lit.wf, IntKind.min, IntKind.max, IntKind.bits, IntKind.signed] at h; omega
end
theorem rdT3 {E : Ctx} {k : IntKind} {x y c : Int} {vals : List Value} (h : RdT E [.v (.int k x), .v (.int k y), .v (.int k c)] vals) : vals = [.int k x, .int k y, .int k c] := by
  simp only [RdT, Rd] at h
  obtain ⟨u, r, rfl, rfl, u2, r2, rfl, rfl, u3, r3, rfl, rfl, rfl⟩ := h
  rfl
theorem rd_two {E : Ctx} (x y : Value) : Rd E (.tup [.v x, .v y]) (.tuple #[x, y]) := by
  simp only [Rd]
  exact ⟨#[x, y], rfl, by simp [RdT, Rd]⟩
def sub64E : Array Value → Sem Value := (Extern.MathBitsCarry.rows.getD 1 ("", fun _ => .pure undef)).2
theorem run_sub64E {P : Program} (x y b : Int) (hx : 0 ≤ x) (hy : 0 ≤ y) (hx2 : x < 18446744073709551616) (hy2 : y < 18446744073709551616) (h0 : 0 ≤ b) (hb : b ≤ 1) (w : World) :
    (sub64E #[.int .u64 x, .int .u64 y, .int .u64 b]).run P w = .ok (.tuple #[.int .u64 ((x - y - b) % 18446744073709551616), .int .u64 (bif decide (x < y + b) then 1 else 0)]) w := by
  obtain ⟨X, rfl⟩ := Int.eq_ofNat_of_zero_le hx
  obtain ⟨Y, rfl⟩ := Int.eq_ofNat_of_zero_le hy
  obtain ⟨B, rfl⟩ := Int.eq_ofNat_of_zero_le h0
  have key : ∀ B : Nat, B ≤ 1 → (sub64E #[.int .u64 (X : Int), .int .u64 (Y : Int), .int .u64 (B : Int)]).run P w = .ok (Extern.MathBitsCarry.pair ((X + Extern.MathBitsCarry.m64 - Y - B) % Extern.MathBitsCarry.m64) (if X < Y + B then 1 else 0)) w := by
    intro B hB
    have : B = 0 ∨ B = 1 := by omega
    rcases this with rfl | rfl <;> rfl
  rw [key B (by omega)]
  have e1 : Extern.MathBitsCarry.m64 = 18446744073709551616 := by decide
  have e2 : (((X + 18446744073709551616 - Y - B) % 18446744073709551616 : Nat) : Int) = ((X : Int) - Y - B) % 18446744073709551616 := by omega
  have e3 : ((if X < Y + B then 1 else 0 : Nat) : Int) = bif decide ((X : Int) < (Y : Int) + (B : Int)) then 1 else 0 := by
    by_cases h : X < Y + B
    · have h' : (X : Int) < (Y : Int) + (B : Int) := by omega
      simp [h, h']
    · have h' : ¬ (X : Int) < (Y : Int) + (B : Int) := by omega
      simp [h, h']
  simp only [Extern.MathBitsCarry.pair, e1, Int.ofNat_eq_natCast, e2, e3]
theorem ext_add64 {P : Program} {f : FuncId} {fn : Func} (hf : P.funcs[f]? = some fn) (hname : (fn.name == "runtime.NumGoroutine") = false) (hb : fn.body.isNone = true) (hn : Extern.findNext fn = none) (he : Extern.find fn = some add64Entry)
    {x y c : Int} (hx : 0 ≤ x) (hy : 0 ≤ y) (hc0 : 0 ≤ c) (hc : c ≤ 1) : ExtJ P f [.v (.int .u64 x), .v (.int .u64 y), .v (.int .u64 c)] (.tup [.v (.int .u64 ((x + y + c) % 18446744073709551616)), .v (.int .u64 ((x + y + c) / 18446744073709551616))]) := by
  intro E vals w hr
  rw [rdT3 hr]
  refine ⟨_, ?_, rd_two _ _⟩
  rw [run_callFunc_extern hf hname hb hn he]
  have := run_add64 (P := P) x y c hx hy hc0 hc w
  simp only [this, Result.andThen]
theorem ext_sub64 {P : Program} {f : FuncId} {fn : Func} (hf : P.funcs[f]? = some fn) (hname : (fn.name == "runtime.NumGoroutine") = false) (hb : fn.body.isNone = true) (hn : Extern.findNext fn = none) (he : Extern.find fn = some sub64E)
    {x y b : Int} (hx : 0 ≤ x) (hy : 0 ≤ y) (hx2 : x < 18446744073709551616) (hy2 : y < 18446744073709551616) (hc0 : 0 ≤ b) (hc : b ≤ 1) : ExtJ P f [.v (.int .u64 x), .v (.int .u64 y), .v (.int .u64 b)] (.tup [.v (.int .u64 ((x - y - b) % 18446744073709551616)), .v (.int .u64 (bif decide (x < y + b) then 1 else 0))]) := by
  intro E vals w hr
  rw [rdT3 hr]
  refine ⟨_, ?_, rd_two _ _⟩
  rw [run_callFunc_extern hf hname hb hn he]
  have := run_sub64E (P := P) x y b hx hy hx2 hy2 hc0 hc w
  simp only [this, Result.andThen]
end Go.VD
end
section
namespace Go.VD
set_option linter.unusedVariables false
set_option linter.unusedSimpArgs false
structure Ctx.lem (E E' : Ctx) : Prop where
  S : ∀ k, E.S k → E'.S k
  keep : ∀ k, E.S k → E'.w.heap[k]? = E.w.heap[k]?
  new : ∀ k, E'.S k → E.S k ∨ Live E.ρ E.H k ∨ E.w.heap.size ≤ k
  fix : ∀ k, Fix E k → Fix E' k
  heap : ∀ k, Fix E k → E'.w.heap[k]? = E.w.heap[k]?
  size : E.w.heap.size ≤ E'.w.heap.size
  os : E'.w.os = E.w.os
  tape : E'.w.tape = E.w.tape
  output : E'.w.output = E.w.output
theorem Ctx.le.lem {E E' : Ctx} (h : E.le E') : E.lem E' := ⟨h.S, h.keep, h.new, h.fix, h.heap, h.size, h.os, h.tape, h.output⟩
theorem Ctx.lem.refl (E : Ctx) : E.lem E := (Ctx.le.refl E).lem
theorem Ctx.lem.trans {E E' E'' : Ctx} (h : E.lem E') (k : E'.lem E'') : E.lem E'' :=
  ⟨fun x hx => k.S x (h.S x hx), fun x hx => (k.keep x (h.S x hx)).trans (h.keep x hx),
    fun x hx => by
      rcases k.new x hx with h1 | h1 | h1
      · exact h.new x h1
      · by_cases hl : Live E.ρ E.H x
        · exact .inr (.inl hl)
        · rcases Nat.lt_or_ge x E.w.heap.size with h2 | h2
          · exact absurd h1 (h.fix x ⟨h2, hl⟩).2
          · exact .inr (.inr h2)
      · exact .inr (.inr (Nat.le_trans h.size h1)),
    fun x hx => k.fix x (h.fix x hx), fun x hx => (k.heap x (h.fix x hx)).trans (h.heap x hx),
    Nat.le_trans h.size k.size, k.os.trans h.os, k.tape.trans h.tape, k.output.trans h.output⟩
def DWP (P : Program) (nt : Nat) (c : Code) (Q : Exit → Env → Heap → Prop) (env : Env) (H : Heap) : Prop :=
  ∀ ρ S w a, Inv nt ρ S w H env a → c.wp P (fun e a' w' => ∃ env' H' ρ' S', Q e env' H' ∧ Inv nt ρ' S' w' H' env' a' ∧ (ctx ρ S w H).lem (ctx ρ' S' w' H')) a w
theorem DW.dwp {P : Program} {nt : Nat} {c : Code} {Q : Exit → Env → Heap → Prop} {env : Env} {H : Heap} (h : DW P nt c Q env H) : DWP P nt c Q env H :=
  fun ρ S w a hi => wp_mono (h ρ S w a hi) fun e a' w' ⟨env', H', ρ', S', h1, h2, h3⟩ => ⟨env', H', ρ', S', h1, h2, h3.lem⟩
theorem DWP.mono {P : Program} {nt : Nat} {c : Code} {Q Q' : Exit → Env → Heap → Prop} {env : Env} {H : Heap} (h : DWP P nt c Q env H) (hq : ∀ e env H, Q e env H → Q' e env H) : DWP P nt c Q' env H :=
  fun ρ S w a hi => wp_mono (h ρ S w a hi) fun e a' w' ⟨env', H', ρ', S', h1, h2⟩ => ⟨env', H', ρ', S', hq _ _ _ h1, h2⟩
def View (nt : Nat) (env : Env) (H : Heap) (env2 : Env) (H2 : Heap) : Prop :=
  ∀ ρ S w a, Inv nt ρ S w H env a → ∃ ρ' S', Inv nt ρ' S' w H2 env2 a ∧ (ctx ρ S w H).lem (ctx ρ' S' w H2)
theorem DWP.view {P : Program} {nt : Nat} {c : Code} {Q : Exit → Env → Heap → Prop} {env env2 : Env} {H H2 : Heap} (v : View nt env H env2 H2) (h : DWP P nt c Q env2 H2) : DWP P nt c Q env H := by
  intro ρ S w a hi
  obtain ⟨ρ', S', hi', hle⟩ := v ρ S w a hi
  exact wp_mono (h ρ' S' w a hi') fun e a' w' ⟨env', H', ρ'', S'', h1, h2, h3⟩ => ⟨env', H', ρ'', S'', h1, h2, hle.trans h3⟩
theorem DWP.post {P : Program} {nt : Nat} {c : Code} {Q : Exit → Env → Heap → Prop} {env : Env} {H : Heap} (h : DWP P nt c (fun e env' H' => ∃ env2 H2, View nt env' H' env2 H2 ∧ Q e env2 H2) env H) : DWP P nt c Q env H := by
  intro ρ S w a hi
  refine wp_mono (h ρ S w a hi) fun e a' w' ⟨env', H', ρ', S', ⟨env2, H2, v, hq⟩, h2, h3⟩ => ?_
  obtain ⟨ρ'', S'', hi', hle⟩ := v ρ' S' w' a' h2
  exact ⟨env2, H2, ρ'', S'', hq, hi', h3.trans hle⟩
theorem DWP.loop {P : Program} {nt : Nat} {α : Type} (J : α → Prop) (I : α → Env) (HI : α → Heap) (μ : α → Nat) {c : Code} {Q : Exit → Env → Heap → Prop} (x0 : α) (h0 : J x0)
    (round : ∀ x, J x → DWP P nt c (thenQ (fun env' H' => ∃ y, μ y < μ x ∧ J y ∧ View nt env' H' (I y) (HI y)) Q) (I x) (HI x)) : DWP P nt (.loop c) Q (I x0) (HI x0) := by
  intro ρ S w a hi
  refine wp_loop_ghost (fun n a' w' => ∃ x ρ' S', μ x = n ∧ J x ∧ Inv nt ρ' S' w' (HI x) (I x) a' ∧ (ctx ρ S w (HI x0)).lem (ctx ρ' S' w' (HI x))) (μ x0) ⟨x0, ρ, S, rfl, h0, hi, Ctx.lem.refl _⟩ ?_
  rintro n a' w' ⟨x, ρ', S', rfl, hx, hi', hle⟩
  refine wp_mono (round x hx ρ' S' w' a' hi') fun e a'' w'' ⟨env', H', ρ'', S'', h1, h2, h3⟩ => ?_
  cases e with
  | normal =>
    obtain ⟨y, hy, hJ, v⟩ := h1
    obtain ⟨ρ3, S3, hi3, hle3⟩ := v ρ'' S'' w'' a'' h2
    exact ⟨μ y, hy, y, ρ3, S3, rfl, hJ, hi3, (hle.trans h3).trans hle3⟩
  | _ => exact ⟨env', H', ρ'', S'', h1, h2, hle.trans h3⟩
def idxOf (keep : List (Option Nat)) (b : Nat) : Option Nat := go keep 0
where go : List (Option Nat) → Nat → Option Nat
  | [], _ => none
  | some c :: r, i => bif Nat.beq c b then some i else go r (i + 1)
  | none :: r, i => go r (i + 1)
mutual
def viewD (keep : List (Option Nat)) (H : Heap) : D → Option (D × Prop)
  | .v x => some (.v x, True)
  | .ro n xs => some (.ro n xs, True)
  | .rp xs j => some (.rp xs j, True)
  | .sl b off n c => match idxOf keep b with
    | some i => some (.sl i off n c, True)
    | none => sealD H (.sl b off n c)
  | .ptr b off => match idxOf keep b with
    | some i => some (.ptr i off, True)
    | none => sealD H (.ptr b off)
  | .agg xs => match viewL keep H xs with
    | some (ys, c) => some (.agg ys, c)
    | none => none
  | .tup xs => match viewL keep H xs with
    | some (ys, c) => some (.tup ys, c)
    | none => none
  | .ifc t d => match viewD keep H d with
    | some (e, c) => some (.ifc t e, c)
    | none => none
  | .fn f k caps => match viewL keep H caps with
    | some (ys, c) => some (.fn f k ys, c)
    | none => none
def viewL (keep : List (Option Nat)) (H : Heap) : List D → Option (List D × Prop)
  | [] => some ([], True)
  | d :: ds => match viewD keep H d, viewL keep H ds with
    | some (e, c), some (es, cs) => some (e :: es, c ∧ cs)
    | _, _ => none
end
def nilOk (keep : List (Option Nat)) : D → D → Prop
  | .v (.slice none 0 0), .sl i 0 0 (.toEnd _) => match keep[i]? with
    | some none => True
    | _ => False
  | _, _ => False
def isNilSl : D → D → Bool
  | .v (.slice none 0 0), .sl _ 0 0 (.toEnd _) => true
  | _, _ => false
def viewOk (keep : List (Option Nat)) (H : Heap) (d d2 : D) : Prop :=
  bif isNilSl d d2 then nilOk keep d d2 else (match viewD keep H d with
    | some (e, c) => c ∧ e = d2
    | none => False)
def viewEnv (keep : List (Option Nat)) (H : Heap) (env : Env) : Env → Prop
  | [] => True
  | (t, d2) :: r => (match env.lookup t with
    | some d => viewOk keep H d d2
    | none => False) ∧ viewEnv keep H env r
def viewHeap (H : Heap) : List (Option Nat) → Heap → Prop
  | [], H2 => H2 = []
  | some b :: ks, x :: xs => (match blkAt H b with
    | some blk => x = some blk ∧ NamelessL blk.cs
    | none => False) ∧ viewHeap H ks xs
  | none :: ks, some ⟨_, cs, _⟩ :: xs => cs = [] ∧ viewHeap H ks xs
  | _, _ => False
def nodupB : List (Option Nat) → Bool
  | [] => true
  | some b :: r => !(r.contains (some b)) && nodupB r
  | none :: r => nodupB r
def viewAll (keep : List (Option Nat)) (env : Env) (H : Heap) (env2 : Env) (H2 : Heap) : Prop := nodupB keep = true ∧ viewHeap H keep H2 ∧ viewEnv keep H env env2
section
variable {keep : List (Option Nat)} {H H2 : Heap} {ρ : Nat → Nat × Nat} {S : Nat → Prop} {w : World}
theorem idxOf_go : ∀ (l : List (Option Nat)) (k i b : Nat), idxOf.go b l k = some i → ∃ j, i = k + j ∧ l[j]? = some (some b)
  | [], k, i, b, h => by simp [idxOf.go] at h
  | some c :: r, k, i, b, h => by
    simp only [idxOf.go] at h
    cases hc : Nat.beq c b with
    | true =>
      rw [hc] at h
      simp only [cond_true, Option.some.injEq] at h
      exact ⟨0, by omega, by simp [Nat.eq_of_beq_eq_true hc]⟩
    | false =>
      rw [hc] at h
      obtain ⟨j, h1, h2⟩ := idxOf_go r (k + 1) i b h
      exact ⟨j + 1, by omega, by simpa using h2⟩
  | none :: r, k, i, b, h => by
    simp only [idxOf.go] at h
    obtain ⟨j, h1, h2⟩ := idxOf_go r (k + 1) i b h
    exact ⟨j + 1, by omega, by simpa using h2⟩
theorem idxOf_some {i b : Nat} (h : idxOf keep b = some i) : keep[i]? = some (some b) := by
  obtain ⟨j, h1, h2⟩ := idxOf_go keep 0 i b h
  rw [h1, Nat.zero_add]; exact h2
theorem idxOf_go_none : ∀ (l : List (Option Nat)) (k b : Nat), idxOf.go b l k = none → some b ∉ l
  | [], k, b, h => by simp
  | some c :: r, k, b, h => by
    simp only [idxOf.go] at h
    cases hc : Nat.beq c b with
    | true => rw [hc] at h; cases h
    | false =>
      rw [hc] at h
      have := idxOf_go_none r (k + 1) b h
      have hne : b ≠ c := fun e => by subst e; simp at hc
      simp [this, hne]
  | none :: r, k, b, h => by
    simp only [idxOf.go] at h
    have := idxOf_go_none r (k + 1) b h
    simp [this]
theorem nodup_get : ∀ (l : List (Option Nat)) (i j b : Nat), nodupB l = true → l[i]? = some (some b) → l[j]? = some (some b) → i = j
  | [], i, j, b, _, h, _ => by simp at h
  | x :: r, i, j, b, hn, hi, hj => by
    have hr : nodupB r = true := by
      cases x with
      | none => simpa [nodupB] using hn
      | some c => simp only [nodupB, Bool.and_eq_true] at hn; exact hn.2
    cases i with
    | zero =>
      cases j with
      | zero => rfl
      | succ j =>
        simp at hi hj
        subst hi
        simp only [nodupB, Bool.and_eq_true, Bool.not_eq_true'] at hn
        have : some b ∈ r := List.mem_of_getElem? hj
        have h1 := hn.1
        simp [this] at h1
    | succ i =>
      cases j with
      | zero =>
        simp at hi hj
        subst hj
        simp only [nodupB, Bool.and_eq_true, Bool.not_eq_true'] at hn
        have : some b ∈ r := List.mem_of_getElem? hi
        have h1 := hn.1
        simp [this] at h1
      | succ j => rw [nodup_get r i j b hr (by simpa using hi) (by simpa using hj)]
theorem viewHeap_get : ∀ (ks : List (Option Nat)) (H2 : Heap), viewHeap H ks H2 → H2.length = ks.length ∧ ∀ (i : Nat) (blk : Blk), H2[i]? = some (some blk) → (∃ b, ks[i]? = some (some b) ∧ H[b]? = some (some blk) ∧ NamelessL blk.cs) ∨ (ks[i]? = some none ∧ blk.cs = [])
  | [], H2, h => by simp only [viewHeap] at h; subst h; simp
  | some b :: ks, [], h => by simp [viewHeap] at h
  | some b :: ks, x :: xs, h => by
    simp only [viewHeap] at h
    obtain ⟨h1, h2⟩ := h
    obtain ⟨hl, ih⟩ := viewHeap_get ks xs h2
    split at h1
    · rename_i blk0 hb
      obtain ⟨rfl, hn⟩ := h1
      refine ⟨by simp [hl], fun i blk hi => ?_⟩
      cases i with
      | zero =>
        simp at hi; subst hi
        exact .inl ⟨b, by simp, blkAt_some hb, hn⟩
      | succ i => simpa using ih i blk (by simpa using hi)
    · exact h1.elim
  | none :: ks, [], h => by simp [viewHeap] at h
  | none :: ks, none :: xs, h => by simp [viewHeap] at h
  | none :: ks, some ⟨ty, cs, f⟩ :: xs, h => by
    simp only [viewHeap] at h
    obtain ⟨h1, h2⟩ := h
    obtain ⟨hl, ih⟩ := viewHeap_get ks xs h2
    refine ⟨by simp [hl], fun i blk hi => ?_⟩
    cases i with
    | zero => simp at hi; subst hi; exact .inr ⟨by simp, h1⟩
    | succ i => simpa using ih i blk (by simpa using hi)
def reρ (keep : List (Option Nat)) (ρ : Nat → Nat × Nat) : Nat → Nat × Nat := fun i => match keep[i]? with
  | some (some b) => ρ b
  | _ => (0, 0)
def reS (keep : List (Option Nat)) (ρ : Nat → Nat × Nat) (H : Heap) (S : Nat → Prop) : Nat → Prop := fun k => S k ∨ ∃ b blk, H[b]? = some (some blk) ∧ some b ∉ keep ∧ 0 < (ρ b).2 ∧ (ρ b).1 = k
theorem view_live (hh : viewHeap H keep H2) {k : Nat} (h : Live (reρ keep ρ) H2 k) : ∃ b blk, some b ∈ keep ∧ H[b]? = some (some blk) ∧ 0 < (ρ b).2 ∧ (ρ b).1 = k := by
  obtain ⟨i, blk, hi, hz, hk⟩ := h
  rcases (viewHeap_get _ _ hh).2 i blk hi with ⟨b, h1, h2, _⟩ | ⟨h1, _⟩
  · simp only [reρ, h1] at hz hk
    exact ⟨b, blk, List.mem_of_getElem? h1, h2, hz, hk⟩
  · simp only [reρ, h1] at hz
    exact absurd hz (by simp)
theorem view_lem (hS : St ρ S w H) (hh : viewHeap H keep H2) : (ctx ρ S w H).lem (ctx (reρ keep ρ) (reS keep ρ H S) w H2) :=
  ⟨fun k h => .inl h, fun _ _ => rfl, fun k h => by
    rcases h with h | ⟨b, blk, h1, _, h2, h3⟩
    · exact .inl h
    · exact .inr (.inl ⟨b, blk, h1, h2, h3⟩),
   fun k h => ⟨h.1, fun hl => by
    obtain ⟨b, blk, _, h1, h2, h3⟩ := view_live hh hl
    exact h.2 ⟨b, blk, h1, h2, h3⟩⟩, fun _ _ => rfl, Nat.le_refl _, rfl, rfl, rfl⟩
theorem view_st (hS : St ρ S w H) (hn : nodupB keep = true) (hh : viewHeap H keep H2) : St (reρ keep ρ) (reS keep ρ H S) w H2 := by
  refine ⟨fun k hk => ?_, fun i blk hi hz => ?_, fun i blk hi hz => ?_, fun i j bi bj hi hj hz hz' he => ?_, hS.glob.mono (fun _ h => .inl h) fun _ _ => rfl⟩
  · rcases hk with hk | ⟨b, blk, h1, h2, h3, h4⟩
    · exact ⟨(hS.sub k hk).1, fun hl => by
        obtain ⟨b, blk, _, h1, h2, h3⟩ := view_live hh hl
        exact (hS.sub k hk).2 ⟨b, blk, h1, h2, h3⟩⟩
    · refine ⟨hS.lt ⟨b, blk, h1, h3, h4⟩, fun hl => ?_⟩
      obtain ⟨b', blk', hm, h1', h3', h4'⟩ := view_live hh hl
      have := hS.inj b b' _ _ h1 h1' h3 h3' (h4.trans h4'.symm)
      subst this
      exact h2 hm
  · rcases (viewHeap_get _ _ hh).2 i blk hi with ⟨b, h1, h2, _⟩ | ⟨_, h2⟩
    · simp only [reρ, h1] at hz
      exact hS.none b blk h2 hz
    · exact h2
  · rcases (viewHeap_get _ _ hh).2 i blk hi with ⟨b, h1, h2, h3⟩ | ⟨h1, _⟩
    · simp only [reρ, h1] at hz ⊢
      obtain ⟨cur, hc⟩ := hS.blk b blk h2 hz
      refine ⟨cur, hc.heap, hc.size, ?_, hc.full⟩
      have hp := hc.pre
      have key : ∀ (ds : List D) (us : List Value), NamelessL ds → RdL (ctx ρ S w H) ds us → RdL (ctx (reρ keep ρ) (reS keep ρ H S) w H2) ds us := by
        intro ds
        induction ds with
        | nil => intro us _ h; simpa only [RdL] using h
        | cons d ds ih =>
          intro us hn h
          simp only [NamelessL] at hn
          simp only [RdL] at h ⊢
          obtain ⟨u, r, e, ho, hd, hr⟩ := h
          exact ⟨u, r, e, ho, hd.moveS (fun k hk => .inl hk) hn.1, ih r hn.2 hr⟩
      exact key _ _ h3 hp
    · simp only [reρ, h1] at hz
      exact absurd hz (by simp)
  · rcases (viewHeap_get _ _ hh).2 i bi hi with ⟨b, h1, h2, _⟩ | ⟨h1, _⟩
    · rcases (viewHeap_get _ _ hh).2 j bj hj with ⟨c, h1', h2', _⟩ | ⟨h1', _⟩
      · simp only [reρ, h1] at hz he
        simp only [reρ, h1'] at hz' he
        have := hS.inj b c _ _ h2 h2' hz hz' he
        subst this
        exact nodup_get keep i j b hn h1 h1'
      · simp only [reρ, h1'] at hz'
        exact absurd hz' (by simp)
    · simp only [reρ, h1] at hz
      exact absurd hz (by simp)
theorem seal_rd {b : Nat} (hS : St ρ S w H) (hb : some b ∉ keep) {d e : D} {c : Prop} {u : Value} (hd : (∃ off n cp, d = .sl b off n cp) ∨ ∃ off, d = .ptr b off) (h : sealD H d = some (e, c)) (hc : c) (hr : Rd (ctx ρ S w H) d u) : Rd (ctx (reρ keep ρ) (reS keep ρ H S) w H2) e u := by
  have main : ∀ blk, H[b]? = some (some blk) → (∀ b' blk', H[b']? = some (some blk') → 0 < (ρ b').2 → True) → True := fun _ _ _ => trivial
  have hT : ∀ (H0 : Heap), (∀ x, H0[x]? = if x = b then H[b]? else none) → True := fun _ _ => trivial
  let Hb : Heap := (List.range (b + 1)).map fun x => if x = b then (H[b]?).join else none
  have hget : ∀ x blk, Hb[x]? = some (some blk) → x = b ∧ H[b]? = some (some blk) := by
    intro x blk hx
    simp only [Hb, List.getElem?_map] at hx
    cases hr : (List.range (b + 1))[x]? with
    | none => simp [hr] at hx
    | some y =>
      have hy : y = x := by
        have := List.getElem?_eq_some_iff.1 hr
        obtain ⟨_, h2⟩ := this
        simpa using h2.symm
      subst hy
      simp only [hr, Option.map_some, Option.some.injEq] at hx
      by_cases hyb : y = b
      · subst hyb
        simp only [if_true] at hx
        cases hh : H[y]? with
        | none => simp [hh] at hx
        | some o => simp [hh] at hx; subst hx; exact ⟨rfl, rfl⟩
      · simp [hyb] at hx
  have hblk : blkAt Hb b = blkAt H b := by
    unfold blkAt
    have : Hb[b]? = some ((H[b]?).join) := by
      simp [Hb]
    rw [this]
    cases hh : H[b]? with
    | none => rfl
    | some o => cases o <;> rfl
  have hSb : St ρ S w Hb := by
    refine ⟨fun k hk => ⟨(hS.sub k hk).1, fun ⟨x, blk, hx, hz, e⟩ => ?_⟩, fun x blk hx hz => ?_, fun x blk hx hz => ?_, fun x y bx by_ hx hy hzx hzy e => ?_, hS.glob⟩
    · obtain ⟨rfl, h⟩ := hget x blk hx
      exact (hS.sub k hk).2 ⟨_, blk, h, hz, e⟩
    · obtain ⟨rfl, h⟩ := hget x blk hx
      exact hS.none _ blk h hz
    · obtain ⟨rfl, hx2⟩ := hget x blk hx
      obtain ⟨cur, hcur⟩ := hS.blk _ blk hx2 hz
      have hn : NamelessL blk.cs := by
        have hbb : blkAt H x = some blk := by unfold blkAt; rw [hx2]
        rcases hd with ⟨off, n, cp, rfl⟩ | ⟨off, rfl⟩
        · simp only [sealD, hbb] at h
          cases cp <;> (simp only at h; obtain ⟨_, rfl⟩ := pair_inj h; exact hc.1)
        · simp only [sealD, hbb] at h
          obtain ⟨_, rfl⟩ := pair_inj h
          exact hc.1
      refine ⟨cur, hcur.heap, hcur.size, ?_, hcur.full⟩
      have key : ∀ (ds : List D) (us : List Value), NamelessL ds → RdL (ctx ρ S w H) ds us → RdL (ctx ρ S w Hb) ds us := by
        intro ds
        induction ds with
        | nil => intro us _ h; simpa only [RdL] using h
        | cons d ds ih =>
          intro us hn h
          simp only [NamelessL] at hn
          simp only [RdL] at h ⊢
          obtain ⟨u, r, e, ho, hd, hr⟩ := h
          exact ⟨u, r, e, ho, hd.move hn.1, ih r hn.2 hr⟩
      exact key _ _ hn hcur.pre
    · obtain ⟨rfl, _⟩ := hget x bx hx
      obtain ⟨rfl, _⟩ := hget y by_ hy
      rfl
  have hlive : ∀ x blk, Hb[x]? = some (some blk) → 0 < (ρ x).2 → reS keep ρ H S (ρ x).1 := fun x blk hx hz => by
    obtain ⟨rfl, h⟩ := hget x blk hx
    exact .inr ⟨_, blk, h, hb, hz, rfl⟩
  have hlen : b < Hb.length := by simp [Hb]
  have hr' : Rd (ctx ρ S w Hb) d u := by
    rcases hd with ⟨off, n, cp, rfl⟩ | ⟨off, rfl⟩
    · cases cp <;> simp only [Rd] at hr ⊢ <;> exact ⟨hlen, hr.2⟩
    · simp only [Rd] at hr ⊢; exact ⟨hlen, hr.2⟩
  have h' : sealD Hb d = some (e, c) := by
    rcases hd with ⟨off, n, cp, rfl⟩ | ⟨off, rfl⟩
    · rw [← h]; simp only [sealD, hblk]
    · rw [← h]; simp only [sealD, hblk]
  have hfin := sealD_rd (S' := reS keep ρ H S) (H' := []) hSb (fun k hk => .inl hk) hlive d e c u h' hc hr'
  have hnl : Nameless e := by
    rcases hd with ⟨off, n, cp, rfl⟩ | ⟨off, rfl⟩
    · simp only [sealD] at h
      split at h
      · cases cp <;> (simp only at h; obtain ⟨rfl, rfl⟩ := pair_inj h; simp only [Nameless]; exact (hc.1.drop _).take _)
      · cases h
    · simp only [sealD] at h
      split at h
      · obtain ⟨rfl, rfl⟩ := pair_inj h; simp only [Nameless]; exact hc.1
      · cases h
  exact hfin.move hnl
mutual
theorem viewD_rd (hS : St ρ S w H) (hn : nodupB keep = true) (hh : viewHeap H keep H2) : ∀ (d e : D) (c : Prop) (u : Value), viewD keep H d = some (e, c) → c → Rd (ctx ρ S w H) d u → Rd (ctx (reρ keep ρ) (reS keep ρ H S) w H2) e u
  | .v x, e, c, u, h, hc, hr => by simp only [viewD] at h; obtain ⟨rfl, rfl⟩ := pair_inj h; simpa [Rd] using hr
  | .ro n xs, e, c, u, h, hc, hr => by
    simp only [viewD] at h; obtain ⟨rfl, rfl⟩ := pair_inj h
    have hnl : NamelessL xs := by simp only [Rd] at hr; exact hr.1
    exact hr.moveS (fun k hk => .inl hk) (by simpa [Nameless] using hnl)
  | .rp xs j, e, c, u, h, hc, hr => by
    simp only [viewD] at h; obtain ⟨rfl, rfl⟩ := pair_inj h
    have hnl : NamelessL xs := by simp only [Rd] at hr; exact hr.1
    exact hr.moveS (fun k hk => .inl hk) (by simpa [Nameless] using hnl)
  | .sl b off n cp, e, c, u, h, hc, hr => by
    simp only [viewD] at h
    split at h
    · rename_i i hi
      obtain ⟨rfl, rfl⟩ := pair_inj h
      have hk := idxOf_some hi
      have hlt : i < H2.length := by rw [(viewHeap_get _ _ hh).1]; exact (List.getElem?_eq_some_iff.1 hk).1
      have hρ : reρ keep ρ i = ρ b := by simp only [reρ, hk]
      cases cp with
      | exact c0 es => simp only [Rd] at hr ⊢; rw [hρ]; exact ⟨hlt, hr.2⟩
      | toEnd es => simp only [Rd] at hr ⊢; rw [hρ]; exact ⟨hlt, hr.2⟩
    · rename_i hi
      exact seal_rd hS (idxOf_go_none keep 0 b hi) (.inl ⟨off, n, cp, rfl⟩) h hc hr
  | .ptr b off, e, c, u, h, hc, hr => by
    simp only [viewD] at h
    split at h
    · rename_i i hi
      obtain ⟨rfl, rfl⟩ := pair_inj h
      have hk := idxOf_some hi
      have hlt : i < H2.length := by rw [(viewHeap_get _ _ hh).1]; exact (List.getElem?_eq_some_iff.1 hk).1
      have hρ : reρ keep ρ i = ρ b := by simp only [reρ, hk]
      simp only [Rd] at hr ⊢; rw [hρ]; exact ⟨hlt, hr.2⟩
    · rename_i hi
      exact seal_rd hS (idxOf_go_none keep 0 b hi) (.inr ⟨off, rfl⟩) h hc hr
  | .agg xs, e, c, u, h, hc, hr => by
    simp only [viewD] at h
    split at h
    · rename_i ys c' hl
      obtain ⟨rfl, rfl⟩ := pair_inj h
      simp only [Rd] at hr ⊢
      obtain ⟨us, hu, hr⟩ := hr
      exact ⟨us, hu, viewL_rd hS hn hh xs ys _ us.toList hl hc hr⟩
    · cases h
  | .tup xs, e, c, u, h, hc, hr => by
    simp only [viewD] at h
    split at h
    · rename_i ys c' hl
      obtain ⟨rfl, rfl⟩ := pair_inj h
      simp only [Rd] at hr ⊢
      obtain ⟨us, hu, hr⟩ := hr
      exact ⟨us, hu, viewT_rd hS hn hh xs ys _ us.toList hl hc hr⟩
    · cases h
  | .ifc t d, e, c, u, h, hc, hr => by
    simp only [viewD] at h
    split at h
    · rename_i y c' hl
      obtain ⟨rfl, rfl⟩ := pair_inj h
      simp only [Rd] at hr ⊢
      obtain ⟨x, hu, hr⟩ := hr
      exact ⟨x, hu, viewD_rd hS hn hh d y _ x hl hc hr⟩
    · cases h
  | .fn f k caps, e, c, u, h, hc, hr => by
    simp only [viewD] at h
    split at h
    · rename_i ys c' hl
      obtain ⟨rfl, rfl⟩ := pair_inj h
      simp only [Rd] at hr ⊢
      obtain ⟨fs, us, hu, hk, hr⟩ := hr
      exact ⟨fs, us, hu, hk, viewT_rd hS hn hh caps ys _ _ hl hc hr⟩
    · cases h
theorem viewL_rd (hS : St ρ S w H) (hn : nodupB keep = true) (hh : viewHeap H keep H2) : ∀ (ds es : List D) (c : Prop) (us : List Value), viewL keep H ds = some (es, c) → c → RdL (ctx ρ S w H) ds us → RdL (ctx (reρ keep ρ) (reS keep ρ H S) w H2) es us
  | [], es, c, us, h, hc, hr => by simp only [viewL] at h; obtain ⟨rfl, rfl⟩ := pair_inj h; simpa [RdL] using hr
  | d :: ds, es, c, us, h, hc, hr => by
    simp only [viewL] at h
    split at h
    · rename_i e c1 es' c2 h1 h2
      obtain ⟨rfl, rfl⟩ := pair_inj h
      simp only [RdL] at hr ⊢
      obtain ⟨u, r, hu, ho, hd, hr⟩ := hr
      exact ⟨u, r, hu, ho, viewD_rd hS hn hh d e _ u h1 hc.1 hd, viewL_rd hS hn hh ds es' _ r h2 hc.2 hr⟩
    · cases h
theorem viewT_rd (hS : St ρ S w H) (hn : nodupB keep = true) (hh : viewHeap H keep H2) : ∀ (ds es : List D) (c : Prop) (us : List Value), viewL keep H ds = some (es, c) → c → RdT (ctx ρ S w H) ds us → RdT (ctx (reρ keep ρ) (reS keep ρ H S) w H2) es us
  | [], es, c, us, h, hc, hr => by simp only [viewL] at h; obtain ⟨rfl, rfl⟩ := pair_inj h; simpa [RdT] using hr
  | d :: ds, es, c, us, h, hc, hr => by
    simp only [viewL] at h
    split at h
    · rename_i e c1 es' c2 h1 h2
      obtain ⟨rfl, rfl⟩ := pair_inj h
      simp only [RdT] at hr ⊢
      obtain ⟨u, r, hu, hd, hr⟩ := hr
      exact ⟨u, r, hu, viewD_rd hS hn hh d e _ u h1 hc.1 hd, viewT_rd hS hn hh ds es' _ r h2 hc.2 hr⟩
    · cases h
end
theorem viewEnv_get {env : Env} : ∀ (env2 : Env), viewEnv keep H env env2 → ∀ t d2, env2.lookup t = some d2 → ∃ d, env.lookup t = some d ∧ viewOk keep H d d2
  | [], _, t, d2, h => by simp at h
  | (s, e) :: r, hv, t, d2, h => by
    simp only [viewEnv] at hv
    rw [List.lookup_cons] at h
    split at h
    · rename_i ht
      have ht : t = s := by simpa using ht
      injection h with h; subst h; subst ht
      have h1 := hv.1
      split at h1
      · rename_i d hd; exact ⟨d, hd, h1⟩
      · exact h1.elim
    · exact viewEnv_get r hv.2 t d2 h
theorem view_of {nt : Nat} {env env2 : Env} (h : viewAll keep env H env2 H2) : View nt env H env2 H2 := by
  obtain ⟨hn, hh, he⟩ := h
  intro ρ S w a hi
  refine ⟨reρ keep ρ, reS keep ρ H S, ⟨view_st hi.st hn hh, fun t d2 ht => ?_, hi.size, hi.defers⟩, view_lem hi.st hh⟩
  obtain ⟨d, hd, hok⟩ := viewEnv_get env2 he t d2 ht
  have hr := hi.env t d hd
  unfold viewOk at hok
  cases hnil : isNilSl d d2 with
  | false =>
    rw [hnil] at hok
    simp only [cond_false] at hok
    split at hok
    · rename_i e c hv
      obtain ⟨hc, rfl⟩ := hok
      exact viewD_rd hi.st hn hh d e c _ hv hc hr
    · exact hok.elim
  | true =>
    rw [hnil] at hok
    simp only [cond_true] at hok
    unfold isNilSl at hnil
    split at hnil
    · rename_i i es
      simp only [nilOk] at hok
      split at hok
      · rename_i hk
        simp only [Rd] at hr ⊢
        have hlt : i < H2.length := by rw [(viewHeap_get _ _ hh).1]; exact (List.getElem?_eq_some_iff.1 hk).1
        refine ⟨hlt, none, 0, hr, Nat.le_refl _, Nat.zero_le _, ?_, fun h => absurd h (by omega)⟩
        simp [reρ, hk]
      · exact hok.elim
    · cases hnil
end
def LRuleP (P : Program) (nt : Nat) (c : Code) (L : LoopO) : Prop := ∀ env H Q, L env H Q → DWP P nt (.loop c) Q env H
def LpAllP (P : Program) (nt : Nat) (lp : Nat → Option LoopO) : List Code → Prop
  | [] => True
  | c :: r => (match lp (firstReg c) with
    | some L => LRuleP P nt c L
    | none => True) ∧ LpAllP P nt lp r
theorem LpAllP.app {P : Program} {nt : Nat} {lp : Nat → Option LoopO} : ∀ {l r : List Code}, LpAllP P nt lp (l ++ r) → LpAllP P nt lp l ∧ LpAllP P nt lp r
  | [], r, h => ⟨trivial, h⟩
  | c :: l, r, h => by
    simp only [List.cons_append, LpAllP] at h ⊢
    exact ⟨⟨h.1, h.2.app.1⟩, h.2.app.2⟩
theorem LpAllP.none {P : Program} {nt : Nat} : ∀ (l : List Code), LpAllP P nt (fun _ => none) l
  | [] => trivial
  | c :: l => ⟨trivial, LpAllP.none l⟩
section
variable {P : Program} {T : Tbl} (hT : TblOk P T) {nt N : Nat} {call : CallO} {lp : Nat → Option LoopO}
theorem View.refl {nt : Nat} (env : Env) (H : Heap) : View nt env H env H := fun ρ S w a hi => ⟨ρ, S, hi, Ctx.lem.refl _⟩
theorem View.has {nt : Nat} {env env2 : Env} {H : Heap} (h : Has env env2) : View nt env H env2 H := fun ρ S w a hi => ⟨ρ, S, hi.sub h, Ctx.lem.refl _⟩
theorem xLoop_okP {c : Code} {body : (Exit → Env → Heap → Prop) → Env → Heap → Prop} (hb : ∀ Q env H, body Q env H → DWP P nt c Q env H) {n : Nat} {Q : Exit → Env → Heap → Prop} {env : Env} {H : Heap} (h : xLoop body n Q (prune [] env) H) : DWP P nt (.loop c) Q env H := by
  refine DWP.view (View.has (has_prune env)) ?_
  refine DWP.loop (fun x : Nat × Env × Heap => xLoop body x.1 Q x.2.1 x.2.2) (fun x => x.2.1) (fun x => x.2.2) (fun x => x.1) (n, prune [] env, H) h ?_
  rintro ⟨m, en, hp⟩ hx
  simp only at hx ⊢
  cases m with
  | zero => exact hx.elim
  | succ m =>
    refine (hb _ _ _ hx).mono fun e env' H' hh => ?_
    cases e with
    | normal => exact ⟨(m, prune [] env', H'), by simp, hh, View.has (has_prune env')⟩
    | _ => exact hh
include hT
theorem vcp_sound (hm : P.follows .mixedOrders = true) (hc : CallOK P call) : ∀ (c : Code) (Q : Exit → Env → Heap → Prop) (env : Env) (H : Heap), codeOk nt c = true → LpAllP P nt lp (loopsOf c) → vcx P call lp T N c Q env H → DWP P nt c Q env H
  | .skip, Q, env, H, hok, _, h => (vcg_sound hT hm .skip Q env H hok h).dwp
  | .region id ops draw, Q, env, H, hok, _, h => by
    refine (vcx_sound (lp := fun _ => none) (N := N) hT hm hc (.region id ops draw) Q env H hok (LpAll.none _) h).dwp
  | .seq a b, Q, env, H, hok, hl, h => by
    simp only [codeOk, Bool.and_eq_true] at hok
    obtain ⟨hl1, hl2⟩ := LpAllP.app hl
    intro ρ S w ac hi
    refine wp_seq (wp_mono (vcp_sound hm hc a _ env H hok.1 hl1 h ρ S w ac hi) fun e a' w' ⟨env', H', ρ', S', h1, h2, h3⟩ => ?_)
    cases e with
    | normal =>
      refine wp_mono (vcp_sound hm hc b Q env' H' hok.2 hl2 h1 ρ' S' w' a' h2) fun e a'' w'' ⟨env'', H'', ρ'', S'', h4, h5, h6⟩ => ?_
      exact ⟨env'', H'', ρ'', S'', h4, h5, h3.trans h6⟩
    | _ => exact ⟨env', H', ρ', S', h1, h2, h3⟩
  | .cond c x y, Q, env, H, hok, hl, h => by
    simp only [codeOk, Bool.and_eq_true] at hok
    obtain ⟨hl1, hl2⟩ := LpAllP.app hl
    intro ρ S w ac hi
    simp only [vcx] at h
    split at h
    · rename_i b hb
      have hv := get_rd hi.st.glob hi.env c _ hb
      simp only [Rd] at hv
      obtain ⟨h1, h2⟩ := cond_prop h
      cases b with
      | true => exact wp_cond hv (vcp_sound hm hc x Q env H hok.1 hl1 (h1 rfl) ρ S w ac hi)
      | false => exact wp_cond hv (vcp_sound hm hc y Q env H hok.2 hl2 (h2 rfl) ρ S w ac hi)
    · exact h.elim
  | .block id c, Q, env, H, hok, hl, h => by
    simp only [codeOk] at hok
    intro ρ S w ac hi
    refine wp_block (wp_mono (vcp_sound hm hc c _ env H hok hl h ρ S w ac hi) fun e a' w' ⟨env', H', ρ', S', h1, h2, h3⟩ => ?_)
    cases e with
    | exit id' =>
      simp only [blockQ] at h1
      simp only [Exit.inBlock]
      split
      · rename_i he; rw [if_pos he] at h1; exact ⟨env', H', ρ', S', h1, h2, h3⟩
      · rename_i he; rw [if_neg he] at h1; exact ⟨env', H', ρ', S', h1, h2, h3⟩
    | _ => exact ⟨env', H', ρ', S', h1, h2, h3⟩
  | .exit id, Q, env, H, hok, _, h => (vcg_sound hT hm (.exit id) Q env H hok h).dwp
  | .ret, Q, env, H, hok, _, h => (vcg_sound hT hm .ret Q env H hok h).dwp
  | .label l, Q, env, H, hok, _, h => (vcg_sound hT hm (.label l) Q env H hok h).dwp
  | .goto l, Q, env, H, hok, _, h => (vcg_sound hT hm (.goto l) Q env H hok h).dwp
  | .refuse _, _, _, _, _, _, h => h.elim
  | .scope c, Q, env, H, hok, hl, h => by
    simp only [codeOk] at hok
    intro ρ S w ac hi
    refine wp_scope_straight (wp_mono (vcp_sound hm hc c _ env H hok hl h ρ S w ac hi) fun e a' w' ⟨env', H', ρ', S', h1, h2, h3⟩ => ?_)
    cases e with
    | goto l => exact h1.elim
    | _ => exact ⟨env', H', ρ', S', h1, h2, h3⟩
  | .rangeFunc .., Q, env, H, _, _, h => h.elim
  | .loop c, Q, env, H, hok, hl, h => by
    simp only [codeOk] at hok
    simp only [loopsOf, LpAllP] at hl
    simp only [vcx] at h
    cases hlp : lp (firstReg c) with
    | some L =>
      simp only [hlp] at h hl
      exact hl.1 env H Q h
    | none =>
      simp only [hlp] at h
      exact xLoop_okP (fun Q env H hh => vcp_sound hm hc c Q env H hok hl.2 hh) h
theorem pureJ_of_vcp (hm : P.follows .mixedOrders = true) (hc : CallOK P call) {f : FuncId} {fn : Func} {c : Code} {ds : List D} {d : D} (hf : P.funcs[f]? = some fn) (hb : fn.body = some c)
    (hname : (fn.name == "runtime.NumGoroutine") = false) (hok : codeOk fn.ntmps c = true) (hlen : decide (ds.length ≤ fn.ntmps) = true) (hl : LpAllP P fn.ntmps lp (loopsOf c)) (h1 : NamelessL ds) (h2 : Nameless d)
    (h : vcx P call lp T N c (retQ T fn.results.toList fun d1 H1 => SealTo H1 d1 d) (envOf 0 ds) []) : PureJ P f ds d := by
  refine PureJ.of_nil h1 h2 (callJ_of_dw hT hf hb hname (by simpa using hlen) ?_)
  intro ρ S w a hi
  refine wp_mono (vcp_sound hT hm hc c _ _ _ hok hl h ρ S w a hi) fun e a' w' ⟨env', H', ρ', S', g1, g2, g3⟩ => ?_
  have nl : ∀ ρ k, ¬ Live ρ [] k := fun ρ k ⟨b, blk, hb, _⟩ => by simp at hb
  refine ⟨env', H', ρ', S', ?_, g2, ⟨by simp, fun b hb => by simp at hb, g3.S, g3.keep, g3.new, g3.fix, g3.heap, g3.size, g3.os, g3.tape, g3.output⟩⟩
  cases e <;> simp only [retQ] at g1 ⊢
  all_goals first
    | exact g1.elim
    | (split at g1
       · exact ⟨g1.1, fin_seal g1.2⟩
       · exact g1.elim)
def loopRule {α β : Type} (kp : List (Option Nat)) (J : α → Prop) (I : α → Env) (HI : α → Heap) (x0 : α) (R : β → Prop) (E : β → Exit × Env × Heap) : LoopO :=
  fun env H Q => J x0 ∧ viewAll kp env H (I x0) (HI x0) ∧ ∀ r, R r → Q (E r).1 (E r).2.1 (E r).2.2
def selEnv : Env → Env → Env
  | [], _ => []
  | (t, _) :: r, env => match env.lookup t with
    | some d => (t, d) :: selEnv r env
    | none => selEnv r env
omit hT in
theorem has_sel {env : Env} : ∀ (like : Env), Has env (selEnv like env)
  | [] => trivial
  | (t, d0) :: r => by
    simp only [selEnv]
    split
    · rename_i d hd; exact ⟨hd, has_sel r⟩
    · exact has_sel r
omit hT in
theorem View.trans {nt : Nat} {e1 e2 e3 : Env} {H1 H2 H3 : Heap} (v : View nt e1 H1 e2 H2) (u : View nt e2 H2 e3 H3) : View nt e1 H1 e3 H3 := by
  intro ρ S w a hi
  obtain ⟨ρ', S', hi', hle⟩ := v ρ S w a hi
  obtain ⟨ρ'', S'', hi'', hle'⟩ := u ρ' S' w a hi'
  exact ⟨ρ'', S'', hi'', hle.trans hle'⟩
def roundQ {α β : Type} (J : α → Prop) (I : α → Env) (HI : α → Heap) (μ : α → Nat) (R : β → Prop) (E : β → Exit × Env × Heap) (x : α) : Exit → Env → Heap → Prop
  | .normal, env', H' => ∃ (y : α) (kp : List (Option Nat)), μ y < μ x ∧ J y ∧ viewAll kp (selEnv (I y) env') H' (I y) (HI y)
  | e, env', H' => ∃ (r : β) (kp : List (Option Nat)), R r ∧ e = (E r).1 ∧ viewAll kp (selEnv (E r).2.1 env') H' (E r).2.1 (E r).2.2
theorem lrule_of (hm : P.follows .mixedOrders = true) (hc : CallOK P call) {α β : Type} {kp : List (Option Nat)} {J : α → Prop} {I : α → Env} {HI : α → Heap} (μ : α → Nat) {x0 : α} {R : β → Prop} {E : β → Exit × Env × Heap} {c : Code}
    (hok : codeOk nt c = true) (hl : LpAllP P nt lp (loopsOf c)) (round : ∀ x, J x → vcx P call lp T N c (roundQ J I HI μ R E x) (I x) (HI x)) : LRuleP P nt c (loopRule kp J I HI x0 R E) := by
  rintro env H Q ⟨h0, hv, hq⟩
  refine DWP.view (view_of hv) ?_
  refine DWP.loop J I HI μ x0 h0 fun x hx => DWP.post ((vcp_sound hT hm hc c _ _ _ hok hl (round x hx)).mono fun e env' H' h => ?_)
  cases e with
  | normal =>
    obtain ⟨y, k, h1, h2, h3⟩ := h
    exact ⟨env', H', View.refl _ _, y, h1, h2, (View.has (has_sel _)).trans (view_of h3)⟩
  | _ =>
    obtain ⟨r, k, h1, h2, h3⟩ := h
    refine ⟨_, _, (View.has (has_sel _)).trans (view_of h3), ?_⟩
    have := hq r h1
    rw [← h2] at this
    exact this
end
def loopRule2 {α β γ : Type} (kp : List (Option Nat)) (J : α → Prop) (I : α → Env) (HI : α → Heap) (x0 : α) (R : β → Prop) (E : β → Exit × Env × Heap) (R' : γ → Prop) (E' : γ → Exit × Env × Heap) : LoopO :=
  fun env H Q => J x0 ∧ viewAll kp env H (I x0) (HI x0) ∧ (∀ r, R r → Q (E r).1 (E r).2.1 (E r).2.2) ∧ ∀ r, R' r → Q (E' r).1 (E' r).2.1 (E' r).2.2
def roundQ2 {α β γ : Type} (J : α → Prop) (I : α → Env) (HI : α → Heap) (μ : α → Nat) (R : β → Prop) (E : β → Exit × Env × Heap) (R' : γ → Prop) (E' : γ → Exit × Env × Heap) (x : α) : Exit → Env → Heap → Prop
  | .normal, env', H' => ∃ (y : α) (kp : List (Option Nat)), μ y < μ x ∧ J y ∧ viewAll kp (selEnv (I y) env') H' (I y) (HI y)
  | e, env', H' => (∃ (r : β) (kp : List (Option Nat)), R r ∧ e = (E r).1 ∧ viewAll kp (selEnv (E r).2.1 env') H' (E r).2.1 (E r).2.2) ∨ ∃ (r : γ) (kp : List (Option Nat)), R' r ∧ e = (E' r).1 ∧ viewAll kp (selEnv (E' r).2.1 env') H' (E' r).2.1 (E' r).2.2
theorem lrule_of2 {P : Program} {T : Tbl} (hT : TblOk P T) {nt N : Nat} {call : CallO} {lp : Nat → Option LoopO} (hm : P.follows .mixedOrders = true) (hc : CallOK P call) {α β γ : Type} {kp : List (Option Nat)} {J : α → Prop} {I : α → Env} {HI : α → Heap} (μ : α → Nat) {x0 : α} {R : β → Prop} {E : β → Exit × Env × Heap} {R' : γ → Prop} {E' : γ → Exit × Env × Heap} {c : Code}
    (hok : codeOk nt c = true) (hl : LpAllP P nt lp (loopsOf c)) (round : ∀ x, J x → vcx P call lp T N c (roundQ2 J I HI μ R E R' E' x) (I x) (HI x)) : LRuleP P nt c (loopRule2 kp J I HI x0 R E R' E') := by
  rintro env H Q ⟨h0, hv, hq, hq'⟩
  refine DWP.view (view_of hv) ?_
  refine DWP.loop J I HI μ x0 h0 fun x hx => DWP.post ((vcp_sound hT hm hc c _ _ _ hok hl (round x hx)).mono fun e env' H' h => ?_)
  cases e with
  | normal =>
    obtain ⟨y, k, h1, h2, h3⟩ := h
    exact ⟨env', H', View.refl _ _, y, h1, h2, (View.has (has_sel _)).trans (view_of h3)⟩
  | _ =>
    rcases h with ⟨r, k, h1, h2, h3⟩ | ⟨r, k, h1, h2, h3⟩
    · refine ⟨_, _, (View.has (has_sel _)).trans (view_of h3), ?_⟩
      have := hq r h1
      rw [← h2] at this
      exact this
    · refine ⟨_, _, (View.has (has_sel _)).trans (view_of h3), ?_⟩
      have := hq' r h1
      rw [← h2] at this
      exact this
def loopAt (c : Code) (k : Nat) : Code := ((loopsOf c).find? fun b => Nat.beq (firstReg b) k).getD .skip
end Go.VD
end
section
namespace Go.Proofs.Ythnhfkpihbjddaa
open Go.VD
set_option linter.unusedVariables false
set_option linter.unusedSimpArgs false
set_option maxRecDepth 100000
def tn (xs : List Nat) : Nat → Nat
  | 0 => 0
  | n + 1 => if xs.getD n 0 = 0 then tn xs n else n + 1
theorem tn_le (xs : List Nat) : ∀ n, tn xs n ≤ n
  | 0 => Nat.le_refl _
  | n + 1 => by
    simp only [tn]; split
    · exact Nat.le_succ_of_le (tn_le xs n)
    · exact Nat.le_refl _
def trimL (xs : List Nat) : List Nat := xs.take (tn xs xs.length)
theorem trimL_length (xs : List Nat) : (trimL xs).length = tn xs xs.length := by
  have := tn_le xs xs.length
  simp [trimL]; omega
def lp_trimLoop (xs : List Nat) : LoopO := loopRule (α := Nat) (β := Unit) [] (fun k => k ≤ xs.length ∧ tn xs k = tn xs xs.length) (fun k => [(0, .ro xs.length (u32s xs)), (3, .v (.int .i64 (k : Int)))]) (fun _ => []) (xs.length) (fun _ => True) (fun _ => (.exit 0, [(0, .ro xs.length (u32s xs)), (3, .v (.int .i64 (tn xs xs.length : Nat)))], []))
theorem trimLoop_rule (xs : List Nat) (hpre : xs.length ≤ 1000000) : LRuleP Try.prog Try.f56.ntmps (loopAt ((Try.f56.body).getD .skip) 2) (lp_trimLoop xs) := by
  refine lrule_of (α := Nat) (β := Unit) (call := noCalls) (lp := fun _ => none) (N := 10) T_ok mixed noCalls_ok (fun k => k) (by kernel_rfl) (LpAllP.none _) ?_
  intro x hJ
  refine of_eq (B := letI z4 := (Exit.exit (0 : Nat)); letI z7 := List.length xs; letI z2 := (Prod.mk (0 : Nat) (D.ro z7 (u32s xs))); letI z3 := ([] : List (Option Blk)); letI z0 := (Prod.mk z4 (Prod.mk [z2, (Prod.mk (3 : Nat) (D.v (Value.int IntKind.i64 (((tn xs z7) : Nat) : Int))))] z3)); letI z9 := ((x : Nat) : Int); letI z1 := (IntKind.wrap IntKind.i64 (z9 - (1 : Int))); letI z10 := ((Int.toNat z1) * (1 : Nat)); letI z5 := (List.getD (u32s xs) z10 (Inhabited.default)); letI z6 := (Prod.mk (3 : Nat) (D.v (Value.int IntKind.i64 z9))); letI z8 := (List (Option Nat)); (True ∧ (True ∧ (True ∧ (pcond (Decidable.decide ((0 : Int) < z9)) (True ∧ (True ∧ (True ∧ ((((0 : Int) ≤ z1) ∧ (z1 < ((z7 : Nat) : Int))) ∧ (((z10 < (List.length (u32s xs))) ∧ (IsInt IntKind.u32 z5)) ∧ (True ∧ (True ∧ (pcond ((cellInt z5) == (0 : Int)) (True ∧ (True ∧ (True ∧ (∃ (y : Nat), (∃ (kp : z8), ((y < x) ∧ (((y ≤ z7) ∧ ((tn xs y) = (tn xs z7))) ∧ (viewAll kp [z2, (Prod.mk (3 : Nat) (D.v (Value.int IntKind.i64 z1)))] z3 [z2, (Prod.mk (3 : Nat) (D.v (Value.int IntKind.i64 ((y : Nat) : Int))))] z3)))))))) (∃ (r : Unit), (∃ (kp : z8), (True ∧ ((z4 = z4) ∧ (viewAll kp [z2, z6] z3 (Prod.fst (Prod.snd ((fun (x_1 : Unit) => z0) r))) (Prod.snd (Prod.snd ((fun (x_1 : Unit) => z0) r)))))))))))))))) (True ∧ (∃ (r : Unit), (∃ (kp : z8), (True ∧ ((z4 = z4) ∧ (viewAll kp [z2, z6] z3 (Prod.fst (Prod.snd ((fun (x_1 : Unit) => z0) r))) (Prod.snd (Prod.snd ((fun (x_1 : Unit) => z0) r)))))))))))))) (by kernel_rfl) ?_
  obtain ⟨hx, ht⟩ := hJ
  simp only [true_and, and_true, and_self, IsInt_lit, IsBool_lit, IsStr_lit, Bool.not_eq_true', Bool.not_eq_false', Bool.not_true, Bool.not_false, Int.reduceLE, Int.reduceLT, Int.reduceNeg, Nat.le_refl, Int.le_refl, Nat.reduceLT, Nat.reduceLeDiff, Nat.reduceEqDiff, D.v.injEq, D.tup.injEq, D.agg.injEq, D.ro.injEq, List.cons.injEq, Value.int.injEq, Value.bool.injEq, pcond_true, pcond_false, NamelessL, Nameless, Nat.reduceMul, Nat.reduceAdd, Nat.zero_add, Int.toNat_natCast]
  refine pcond_intro (fun h => ?_) (fun h => ⟨(), [], ?_⟩)
  · simp only [decide_eq_true_eq] at h
    obtain ⟨j, rfl⟩ : ∃ j, x = j + 1 := ⟨x - 1, by omega⟩
    have e : IntKind.i64.wrap (((j + 1 : Nat) : Int) - 1) = (j : Int) := by rw [wrap_i64_of (by omega) (by omega)]; omega
    simp only [e, Int.toNat_natCast, Nat.mul_one, u32s_cell, u32s_length, u32s_isInt _ _ (show j < xs.length by omega)]
    refine ⟨⟨by omega, by omega⟩, ⟨by omega, trivial⟩, pcond_intro (fun h2 => ⟨j, [], by omega, ⟨by omega, ?_⟩, ?_⟩) (fun h2 => ⟨(), [], ?_⟩)⟩
    · rw [← ht]; simp at h2; simp [tn, h2]
    · refine of_eq (B := letI z0 := (D.v (Value.int IntKind.i64 ((j : Nat) : Int))); letI z1 := (D.ro (List.length xs) (u32s xs)); letI z2 := ([] : List (Option Blk)); ((Bool.true = Bool.true) ∧ ((z2 = z2) ∧ ((True ∧ (z1 = z1)) ∧ ((True ∧ (z0 = z0)) ∧ True))))) (by kernel_rfl) ?_
      simp
    · refine of_eq (B := letI z0 := (D.ro (List.length xs) (u32s xs)); letI z1 := ([] : List (Option Blk)); ((Bool.true = Bool.true) ∧ ((z1 = z1) ∧ ((True ∧ (z0 = z0)) ∧ ((True ∧ ((D.v (Value.int IntKind.i64 (((j + (1 : Nat)) : Nat) : Int))) = (D.v (Value.int IntKind.i64 (((tn xs (List.length xs)) : Nat) : Int))))) ∧ True))))) (by kernel_rfl) ?_
      have : tn xs xs.length = j + 1 := by rw [← ht]; simp at h2; simp [tn, h2]
      simp [this]
  · refine of_eq (B := letI z0 := (D.ro (List.length xs) (u32s xs)); letI z1 := ([] : List (Option Blk)); ((Bool.true = Bool.true) ∧ ((z1 = z1) ∧ ((True ∧ (z0 = z0)) ∧ ((True ∧ ((D.v (Value.int IntKind.i64 ((x : Nat) : Int))) = (D.v (Value.int IntKind.i64 (((tn xs (List.length xs)) : Nat) : Int))))) ∧ True))))) (by kernel_rfl) ?_
    have : tn xs xs.length = x := by rw [← ht]; simp at h; subst h; rfl
    simp [this]
theorem trim_pure (xs : List Nat) (hpre : xs.length ≤ 1000000) : PureJ Try.prog 56 [.ro xs.length (u32s xs)] (.ro (trimL xs).length (u32s (trimL xs))) := by
  refine pureJ_of_vcp (call := noCalls) (lp := fun k => bif Nat.beq k 2 then some (lp_trimLoop xs) else none) (N := 10) T_ok mixed noCalls_ok Try.func56 rfl (by decide) (by kernel_rfl) (by kernel_rfl) (of_eq (B := LRuleP Try.prog Try.f56.ntmps (loopAt ((Try.f56.body).getD .skip) 2) (lp_trimLoop xs) ∧ True) (by kernel_rfl) ⟨trimLoop_rule xs hpre, trivial⟩) (by first | trivial | (simp only [NamelessL, Nameless, and_self, and_true, true_and]; done) | (simp [NamelessL, Nameless, u32s_nameless, namelessL_ints]; done)) (by first | trivial | (simp only [NamelessL, Nameless, and_self, and_true, true_and]; done) | (simp [NamelessL, Nameless, u32s_nameless, namelessL_ints]; done)) ?_
  refine of_eq (B := letI z2 := List.length xs; letI z4 := (((tn xs z2) : Nat) : Int); letI z0 := (Int.toNat z4); letI z7 := ((z0 - (0 : Nat)) * (1 : Nat)); letI z6 := (List.take (z0 * (1 : Nat)) (u32s xs)); letI z1 := (([] : List D) ++ (List.take z7 z6)); letI z3 := ((0 : Nat) + (z0 - (0 : Nat))); letI z5 := (D.v (Value.int IntKind.i64 ((z2 : Nat) : Int))); letI z8 := (9223372036854775807 : Nat); letI z9 := ([] : List (Option Blk)); letI z10 := ((0 : Nat) < (1 : Nat)); letI z11 := (D.ro z2 (u32s xs)); (True ∧ (True ∧ (True ∧ (True ∧ (((z2 ≤ z2) ∧ ((tn xs z2) = (tn xs z2))) ∧ (((Bool.true = Bool.true) ∧ ((z9 = z9) ∧ ((True ∧ (z11 = z11)) ∧ ((True ∧ (z5 = z5)) ∧ True)))) ∧ (Unit → (True → ((((0 : Nat) ≤ (16777216 : Nat)) ∧ ((0 : Nat) ≤ z8)) ∧ (True ∧ (True ∧ ((True ∧ ((((0 : Int) ≤ z4) ∧ (z4 ≤ ((z2 : Nat) : Int))) ∧ True)) ∧ (((z7 ≤ (List.length z6)) ∧ (((22 : Nat) = (22 : Nat)) ∧ (((1 : Nat) = (1 : Nat)) ∧ (((41 : Nat) = (41 : Nat)) ∧ (((0 : Nat) ≤ (0 : Nat)) ∧ (z10 ∧ ((z3 ≤ z8) ∧ ((z3 * (4 : Nat)) ≤ (140737488355328 : Nat))))))))) ∧ (True ∧ (True ∧ (((NamelessL z1) ∧ (z10 ∧ (((0 : Nat) + (z3 * (1 : Nat))) ≤ (List.length z1)))) ∧ ((D.ro z3 (List.take (z3 * (1 : Nat)) (List.drop (0 : Nat) z1))) = (D.ro (List.length (trimL xs)) (u32s (trimL xs))))))))))))))))))))) (by kernel_rfl) ?_
  have ht := tn_le xs xs.length
  simp only [true_and, and_true, and_self, IsInt_lit, IsBool_lit, IsStr_lit, Bool.not_eq_true', Bool.not_eq_false', Bool.not_true, Bool.not_false, Int.reduceLE, Int.reduceLT, Int.reduceNeg, Nat.le_refl, Int.le_refl, Nat.reduceLT, Nat.reduceLeDiff, Nat.reduceEqDiff, D.v.injEq, D.tup.injEq, D.agg.injEq, D.ro.injEq, List.cons.injEq, Value.int.injEq, Value.bool.injEq, pcond_true, pcond_false, NamelessL, Nameless, Nat.reduceMul, Nat.reduceAdd, Nat.zero_add, Int.toNat_natCast, Nat.mul_one, Nat.sub_zero, u32s_take, List.nil_append, List.drop_zero, List.take_take, Nat.min_self, u32s_length, List.length_take, trimL_length, u32s_nameless]
  exact fun _ _ => ⟨⟨by omega, by omega⟩, ⟨by omega, by omega, by omega⟩, by omega, rfl⟩
def ent_trim : Ent := fun ds => match ds with
  | [.ro n_xs ys_xs] => some (.ro (trimL (unu ys_xs)).length (u32s (trimL (unu ys_xs))), (ys_xs = u32s (unu ys_xs) ∧ n_xs = (unu ys_xs).length) ∧ (unu ys_xs).length ≤ 1000000)
  | _ => none
theorem ent_trim_ok : EntOk Try.prog 56 ent_trim := by
  intro ds d c h hc; unfold ent_trim at h; split at h
  · rename_i n_xs ys_xs; obtain ⟨rfl, rfl⟩ := pair_inj h
    obtain ⟨⟨h1, h2⟩, hc⟩ := hc; subst h2; generalize (unu ys_xs) = xs at *; subst h1
    exact trim_pure xs hc
  · cases h
end Go.Proofs.Ythnhfkpihbjddaa
end
section
namespace Go.Proofs.Ythnhfkpihbjddaa
set_option linter.unusedVariables false
set_option linter.unusedSimpArgs false
def nv : List Nat → Nat
  | [] => 0
  | x :: xs => x + 4294967296 * nv xs
def Dig (xs : List Nat) : Prop := ∀ x ∈ xs, x < 4294967296
def dgn : Nat → Nat → List Nat
  | 0, _ => []
  | k + 1, v => (v % 4294967296) :: dgn k (v / 4294967296)
theorem Dig.nil : Dig [] := by simp [Dig]
theorem Dig.cons {x : Nat} {xs : List Nat} : Dig (x :: xs) ↔ x < 4294967296 ∧ Dig xs := by simp [Dig]
theorem Dig.app {xs ys : List Nat} : Dig (xs ++ ys) ↔ Dig xs ∧ Dig ys := by
  simp only [Dig, List.mem_append]
  exact ⟨fun h => ⟨fun x hx => h x (.inl hx), fun x hx => h x (.inr hx)⟩, fun h x hx => hx.elim (h.1 x) (h.2 x)⟩
theorem Dig.take {xs : List Nat} (h : Dig xs) (n : Nat) : Dig (xs.take n) := fun x hx => h x (List.mem_of_mem_take hx)
theorem Dig.drop {xs : List Nat} (h : Dig xs) (n : Nat) : Dig (xs.drop n) := fun x hx => h x (List.mem_of_mem_drop hx)
theorem Dig.get {xs : List Nat} (h : Dig xs) (i : Nat) : xs.getD i 0 < 4294967296 := by
  rw [List.getD_eq_getElem?_getD]
  cases hx : xs[i]? with
  | none => simp
  | some x => exact h x (List.mem_of_getElem? hx)
theorem dgn_length : ∀ k v, (dgn k v).length = k
  | 0, _ => rfl
  | k + 1, v => by simp [dgn, dgn_length k]
theorem dgn_dig : ∀ k v, Dig (dgn k v)
  | 0, _ => Dig.nil
  | k + 1, v => Dig.cons.2 ⟨Nat.mod_lt _ (by decide), dgn_dig k _⟩
theorem nv_append : ∀ xs ys : List Nat, nv (xs ++ ys) = nv xs + 4294967296 ^ xs.length * nv ys
  | [], ys => by simp [nv]
  | x :: xs, ys => by
    have := nv_append xs ys
    simp only [List.cons_append, nv, this, List.length_cons, Nat.pow_succ]
    grind
theorem nv_lt : ∀ {xs : List Nat}, Dig xs → nv xs < 4294967296 ^ xs.length
  | [], _ => by simp [nv]
  | x :: xs, h => by
    obtain ⟨h1, h2⟩ := Dig.cons.1 h
    have := nv_lt h2
    simp only [nv, List.length_cons, Nat.pow_succ]
    omega
theorem pow_pos32 (k : Nat) : 0 < 4294967296 ^ k := Nat.pow_pos (by decide)
theorem nv_dgn : ∀ k v, nv (dgn k v) = v % 4294967296 ^ k
  | 0, v => by simp [dgn, nv, Nat.mod_one]
  | k + 1, v => by
    simp only [dgn, nv, nv_dgn k]
    rw [Nat.pow_succ, Nat.mul_comm (4294967296 ^ k), Nat.mod_mul]
theorem dgn_nv : ∀ {xs : List Nat}, Dig xs → dgn xs.length (nv xs) = xs
  | [], _ => rfl
  | x :: xs, h => by
    obtain ⟨h1, h2⟩ := Dig.cons.1 h
    have := dgn_nv h2
    simp only [List.length_cons, dgn, nv]
    have e1 : (x + 4294967296 * nv xs) % 4294967296 = x := by omega
    have e2 : (x + 4294967296 * nv xs) / 4294967296 = nv xs := by omega
    rw [e1, e2, this]
theorem dgn_succ : ∀ k v, dgn (k + 1) v = dgn k v ++ [v / 4294967296 ^ k % 4294967296]
  | 0, v => by simp [dgn]
  | k + 1, v => by
    have := dgn_succ k (v / 4294967296)
    rw [dgn, this]
    simp only [dgn, List.cons_append]
    rw [Nat.div_div_eq_div_mul, Nat.pow_succ, Nat.mul_comm 4294967296]
def dg (v : Nat) : List Nat := if h : v = 0 then [] else (v % 4294967296) :: dg (v / 4294967296)
termination_by v
decreasing_by omega
theorem dg_zero : dg 0 = [] := by unfold dg; simp
theorem dg_pos {v : Nat} (h : v ≠ 0) : dg v = (v % 4294967296) :: dg (v / 4294967296) := by
  rw [dg]; simp [h]
theorem nv_dg (v : Nat) : nv (dg v) = v := by
  induction v using Nat.strongRecOn with
  | _ v ih =>
    by_cases h : v = 0
    · subst h; rw [dg_zero]; rfl
    · rw [dg_pos h, nv, ih (v / 4294967296) (by omega)]; omega
theorem dg_dig (v : Nat) : Dig (dg v) := by
  induction v using Nat.strongRecOn with
  | _ v ih =>
    by_cases h : v = 0
    · subst h; rw [dg_zero]; exact Dig.nil
    · rw [dg_pos h]; exact Dig.cons.2 ⟨Nat.mod_lt _ (by decide), ih (v / 4294967296) (by omega)⟩
theorem tn_dg (v : Nat) : tn (dg v) (dg v).length = (dg v).length := by
  have last : ∀ v, v ≠ 0 → (dg v).getD ((dg v).length - 1) 0 ≠ 0 := by
    intro v
    induction v using Nat.strongRecOn with
    | _ v ih =>
      intro h
      rw [dg_pos h]
      by_cases h2 : v / 4294967296 = 0
      · rw [h2, dg_zero]; simp; omega
      · have := ih (v / 4294967296) (by omega) h2
        have hl : 0 < (dg (v / 4294967296)).length := by rw [dg_pos h2]; simp
        have e : ((v % 4294967296) :: dg (v / 4294967296)).length - 1 = ((dg (v / 4294967296)).length - 1) + 1 := by simp; omega
        rw [e, List.getD_cons_succ]
        exact this
  by_cases h : v = 0
  · subst h; rw [dg_zero]; rfl
  · have hl := last v h
    have : 0 < (dg v).length := by rw [dg_pos h]; simp
    obtain ⟨n, hn⟩ : ∃ n, (dg v).length = n + 1 := ⟨(dg v).length - 1, by omega⟩
    rw [hn] at hl ⊢
    simp only [Nat.add_sub_cancel] at hl
    simp only [tn, if_neg hl]
theorem tn_append_zero (xs : List Nat) (k : Nat) : ∀ n, n ≤ xs.length → tn (xs ++ List.replicate k 0) n = tn xs n
  | 0, _ => rfl
  | n + 1, h => by
    have := tn_append_zero xs k n (by omega)
    simp only [tn, this]
    have e : (xs ++ List.replicate k 0).getD n 0 = xs.getD n 0 := by
      simp [List.getD_eq_getElem?_getD, List.getElem?_append_left (show n < xs.length by omega)]
    rw [e]
theorem tn_zeros (xs : List Nat) (k : Nat) : ∀ j, j ≤ k → tn (xs ++ List.replicate k 0) (xs.length + j) = tn xs xs.length
  | 0, _ => tn_append_zero xs k xs.length (Nat.le_refl _)
  | j + 1, h => by
    have := tn_zeros xs k j (by omega)
    rw [← Nat.add_assoc, tn]
    have e : (xs ++ List.replicate k 0).getD (xs.length + j) 0 = 0 := by
      rw [List.getD_eq_getElem?_getD, List.getElem?_append_right (by omega)]
      simp only [Nat.add_sub_cancel_left, List.getElem?_replicate]
      split <;> rfl
    rw [if_pos e, this]
theorem dgn_dg : ∀ (v k : Nat), v < 4294967296 ^ k → ∃ j, dgn k v = dg v ++ List.replicate j 0
  | v, 0, h => by
    have : v = 0 := by simpa using h
    subst this
    exact ⟨0, by simp [dgn, dg_zero]⟩
  | v, k + 1, h => by
    by_cases h0 : v = 0
    · subst h0
      refine ⟨k + 1, ?_⟩
      have z : ∀ k, dgn k 0 = List.replicate k 0 := by
        intro k
        induction k with
        | zero => rfl
        | succ k ih => simp [dgn, ih, List.replicate_succ]
      rw [dg_zero, z]; simp
    · have hlt : v / 4294967296 < 4294967296 ^ k := by
        rw [Nat.pow_succ] at h
        exact Nat.div_lt_of_lt_mul (by rw [Nat.mul_comm]; exact h)
      obtain ⟨j, hj⟩ := dgn_dg (v / 4294967296) k hlt
      exact ⟨j, by rw [dgn, hj, dg_pos h0]; rfl⟩
theorem trimL_dgn {v k : Nat} (h : v < 4294967296 ^ k) : trimL (dgn k v) = dg v := by
  obtain ⟨j, hj⟩ := dgn_dg v k h
  unfold trimL
  rw [hj]
  have := tn_zeros (dg v) j j (Nat.le_refl _)
  rw [List.length_append, List.length_replicate, this, tn_dg]
  simp
theorem trimL_dig {xs : List Nat} (h : Dig xs) : trimL xs = dg (nv xs) := by
  have := trimL_dgn (nv_lt h)
  rwa [dgn_nv h] at this
theorem dg_length_le {v k : Nat} (h : v < 4294967296 ^ k) : (dg v).length ≤ k := by
  obtain ⟨j, hj⟩ := dgn_dg v k h
  have := congrArg List.length hj
  rw [dgn_length, List.length_append] at this
  omega
theorem lt_of_dg_length {v k : Nat} (h : (dg v).length ≤ k) : v < 4294967296 ^ k := by
  have := nv_lt (dg_dig v)
  rw [nv_dg] at this
  exact Nat.lt_of_lt_of_le this (Nat.pow_le_pow_right (by decide) h)
theorem nv_drop_succ (xs : List Nat) (i : Nat) : nv (xs.drop i) = xs.getD i 0 + 4294967296 * nv (xs.drop (i + 1)) := by
  by_cases h : i < xs.length
  · rw [List.drop_eq_getElem_cons h, nv]
    simp [List.getD_eq_getElem?_getD, List.getElem?_eq_getElem h]
  · rw [List.drop_eq_nil_of_le (by omega), List.drop_eq_nil_of_le (by omega)]
    simp [nv, List.getD_eq_getElem?_getD, List.getElem?_eq_none (show xs.length ≤ i by omega)]
theorem nv_drop_ge {xs : List Nat} {i : Nat} (h : xs.length ≤ i) : nv (xs.drop i) = 0 := by
  rw [List.drop_eq_nil_of_le h]; rfl
theorem div_pow_succ (S i : Nat) : S / 4294967296 ^ (i + 1) = S / 4294967296 ^ i / 4294967296 := by
  rw [Nat.pow_succ, Nat.div_div_eq_div_mul]
def Canon (xs : List Nat) : Prop := Dig xs ∧ (xs = [] ∨ xs.getD (xs.length - 1) 0 ≠ 0)
theorem canon_dg {xs : List Nat} (h : Canon xs) : dg (nv xs) = xs := by
  rw [← trimL_dig h.1]
  unfold trimL
  rcases h.2 with h2 | h2
  · subst h2; rfl
  · cases hn : xs.length with
    | zero => have : xs = [] := List.eq_nil_of_length_eq_zero hn; subst this; rfl
    | succ n =>
      rw [hn] at h2
      simp only [Nat.add_sub_cancel] at h2
      simp only [tn, if_neg h2]
      rw [← hn, List.take_length]
end Go.Proofs.Ythnhfkpihbjddaa
end
section
namespace Go.VD
set_option linter.unusedVariables false
set_option linter.unusedSimpArgs false
mutual
def nilRo : D → D
  | .v x => match x with
    | .slice none 0 0 => .ro 0 []
    | y => .v y
  | .ro n xs => .ro n xs
  | .rp xs j => .rp xs j
  | .sl b o n c => .sl b o n c
  | .ptr b o => .ptr b o
  | .agg xs => .agg (nilRoL xs)
  | .tup xs => .tup (nilRoL xs)
  | .ifc t d => .ifc t d
  | .fn f k c => .fn f k c
def nilRoL : List D → List D
  | [] => []
  | d :: ds => nilRo d :: nilRoL ds
end
theorem nilRo_v {E : Ctx} {x u : Value} (h : u = x) : Rd E (nilRo (.v x)) u := by
  unfold nilRo
  split
  · exact ⟨by simp [NamelessL], none, 0, h, Nat.le_refl _, Nat.zero_le _, fun h => absurd h (Nat.lt_irrefl _)⟩
  · exact h
theorem nilRo_vn (x : Value) : Nameless (nilRo (.v x)) := by
  unfold nilRo
  split
  · simp [Nameless, NamelessL]
  · simp [Nameless]
mutual
theorem rd_nilRo {E : Ctx} : ∀ (d : D) (u : Value), Rd E d u → Rd E (nilRo d) u
  | .v x, u, h => nilRo_v h
  | .ro .., _, h => h
  | .rp .., _, h => h
  | .sl .., _, h => h
  | .ptr .., _, h => h
  | .agg xs, u, ⟨us, e, h⟩ => ⟨us, e, rdL_nilRo xs us.toList h⟩
  | .tup xs, u, ⟨us, e, h⟩ => ⟨us, e, rdT_nilRo xs us.toList h⟩
  | .ifc .., _, h => h
  | .fn .., _, h => h
theorem rdL_nilRo {E : Ctx} : ∀ (ds : List D) (us : List Value), RdL E ds us → RdL E (nilRoL ds) us
  | [], _, h => h
  | d :: ds, _, ⟨u, r, e, h1, h2, h3⟩ => ⟨u, r, e, h1, rd_nilRo d u h2, rdL_nilRo ds r h3⟩
theorem rdT_nilRo {E : Ctx} : ∀ (ds : List D) (us : List Value), RdT E ds us → RdT E (nilRoL ds) us
  | [], _, h => h
  | d :: ds, _, ⟨u, r, e, h2, h3⟩ => ⟨u, r, e, rd_nilRo d u h2, rdT_nilRo ds r h3⟩
end
mutual
theorem nameless_nilRo : ∀ d : D, Nameless (nilRo d) → Nameless d
  | .v _, _ => trivial
  | .ro .., h => h
  | .rp .., h => h
  | .sl .., h => h
  | .ptr .., h => h
  | .agg xs, h => namelessL_nilRo xs h
  | .tup xs, h => namelessL_nilRo xs h
  | .ifc .., h => h
  | .fn .., h => h
theorem namelessL_nilRo : ∀ ds : List D, NamelessL (nilRoL ds) → NamelessL ds
  | [], h => h
  | d :: ds, h => ⟨nameless_nilRo d h.1, namelessL_nilRo ds h.2⟩
end
theorem PureJ.nilRo {P : Program} {f : FuncId} {ds : List D} {d : D} (h : PureJ P f (nilRoL ds) d) : PureJ P f ds d :=
  ⟨h.callable, namelessL_nilRo ds h.args, h.res, fun S w vals hs hG hv => h.call S w vals hs hG (rdT_nilRo ds vals hv)⟩
def nilEnt (e : Ent) : Ent := fun ds => e (nilRoL ds)
theorem nilEnt_ok {P : Program} {f : FuncId} {e : Ent} (h : EntOk P f e) : EntOk P f (nilEnt e) := fun ds d c h1 h2 => (h _ _ _ h1 h2).nilRo
def SealNil (H1 : Heap) (d1 d : D) : Prop := match sealD H1 d1 with
  | some (e, c) => c ∧ nilRo e = d
  | none => False
theorem fin_sealNil {P : Program} {ds : List D} {d1 d : D} {H1 : Heap} (h : SealNil H1 d1 d) : Fin ds [] d1 H1 d [] := by
  unfold SealNil at h
  split at h
  · rename_i e c hs
    obtain ⟨hc, rfl⟩ := h
    have hf : SealTo H1 d1 e := by unfold SealTo; rw [hs]; exact ⟨hc, rfl⟩
    intro ρ0 S0 w0 ρ S w u a1 a2 a3 a4
    obtain ⟨ρ', S', b1, b2, b3⟩ := fin_seal (ds := ds) hf ρ0 S0 w0 ρ S w u a1 a2 a3 a4
    exact ⟨ρ', S', b1, b2, rd_nilRo _ _ b3⟩
  · exact h.elim
theorem pureJ_of_vcpN {P : Program} {T : Tbl} {N : Nat} {call : CallO} {lp : Nat → Option LoopO} (hT : TblOk P T) (hm : P.follows .mixedOrders = true) (hc : CallOK P call) {f : FuncId} {fn : Func} {c : Code} {ds : List D} {d : D} (hf : P.funcs[f]? = some fn) (hb : fn.body = some c)
    (hname : (fn.name == "runtime.NumGoroutine") = false) (hok : codeOk fn.ntmps c = true) (hlen : decide (ds.length ≤ fn.ntmps) = true) (hl : LpAllP P fn.ntmps lp (loopsOf c)) (h1 : NamelessL ds) (h2 : Nameless d)
    (h : vcx P call lp T N c (retQ T fn.results.toList fun d1 H1 => SealNil H1 d1 d) (envOf 0 ds) []) : PureJ P f ds d := by
  refine PureJ.of_nil h1 h2 (callJ_of_dw hT hf hb hname (by simpa using hlen) ?_)
  intro ρ S w a hi
  refine wp_mono (vcp_sound hT hm hc c _ _ _ hok hl h ρ S w a hi) fun e a' w' ⟨env', H', ρ', S', g1, g2, g3⟩ => ?_
  have nl : ∀ ρ k, ¬ Live ρ [] k := fun ρ k ⟨b, blk, hb, _⟩ => by simp at hb
  refine ⟨env', H', ρ', S', ?_, g2, ⟨by simp, fun b hb => by simp at hb, g3.S, g3.keep, g3.new, g3.fix, g3.heap, g3.size, g3.os, g3.tape, g3.output⟩⟩
  cases e <;> simp only [retQ] at g1 ⊢
  all_goals first
    | exact g1.elim
    | (split at g1
       · exact ⟨g1.1, fin_sealNil (P := P) g1.2⟩
       · exact g1.elim)
def exLoop {α : Type} (f : α → LoopO) : LoopO := fun env H Q => ∃ a, f a env H Q
theorem exLoop_rule {P : Program} {nt : Nat} {c : Code} {α : Type} {f : α → LoopO} (h : ∀ a, LRuleP P nt c (f a)) : LRuleP P nt c (exLoop f) := fun env H Q ⟨a, ha⟩ => h a env H Q ha
end Go.VD
end
