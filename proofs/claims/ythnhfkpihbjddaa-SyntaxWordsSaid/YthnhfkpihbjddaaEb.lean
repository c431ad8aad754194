/- Arguments of a law by their types: what their cells are. Calls of functions without a body. -/
import Derived.Test.YthnhfkpihbjddaaVs
import Derived.Test.YthnhfkpihbjddaaEa
import Derived.Laws.Externs
namespace Go.VD
set_option linter.unusedVariables false
set_option linter.unusedSimpArgs false
section
variable {T : Tbl} {t e : TypeId} {a b : Nat} {z : List Value} {cs : List D}
theorem TC.bool_inv (h : T t = some ⟨.bool, a, b, z⟩) (hc : TC T t cs) : ∃ x, cs = [.v (.bool x)] := by
  cases hc <;> simp_all
theorem TC.int_inv {k : IntKind} (h : T t = some ⟨.int k, a, b, z⟩) (hc : TC T t cs) : ∃ n, cs = [.v (.int k n)] ∧ (Lit.int k n).wf = true := by
  cases hc <;> simp_all
theorem TC.str_inv (h : T t = some ⟨.str, a, b, z⟩) (hc : TC T t cs) : ∃ s : ByteArray, cs = [.v (.string s)] ∧ s.size ≤ maxLen := by
  cases hc <;> simp_all
theorem TC.slice_inv (h : T t = some ⟨.slice e, a, b, z⟩) (hc : TC T t cs) : ∃ chunks : List (List D), cs = [.ro chunks.length chunks.flatten] ∧ chunks.length ≤ maxLen ∧ ∀ c ∈ chunks, TC T e c := by
  cases hc with
  | slice h' chunks hl hcc => rw [h] at h'; simp only [Option.some.injEq, TI.mk.injEq, TD.slice.injEq] at h'; obtain ⟨rfl, _⟩ := h'; exact ⟨chunks, rfl, hl, hcc⟩
  | _ => simp_all
theorem TC.arr_inv {n : Nat} (h : T t = some ⟨.arr n e, a, b, z⟩) (hc : TC T t cs) : ∃ chunks : List (List D), cs = chunks.flatten ∧ chunks.length = n ∧ ∀ c ∈ chunks, TC T e c := by
  cases hc with
  | arr h' chunks hl hcc => rw [h] at h'; simp only [Option.some.injEq, TI.mk.injEq, TD.arr.injEq] at h'; obtain ⟨⟨rfl, rfl⟩, _⟩ := h'; exact ⟨chunks, rfl, hl, hcc⟩
  | _ => simp_all
theorem TC.struct_inv {fs : List (Nat × TypeId)} (h : T t = some ⟨.struct fs, a, b, z⟩) (hc : TC T t cs) : ∃ parts : List (List D), cs = parts.flatten ∧ parts.length = fs.length ∧ ∀ (i : Nat) (p : List D) (f : Nat × TypeId), parts[i]? = some p → fs[i]? = some f → TC T f.2 p := by
  cases hc with
  | struct h' parts hl hp => rw [h] at h'; simp only [Option.some.injEq, TI.mk.injEq, TD.struct.injEq] at h'; obtain ⟨rfl, _⟩ := h'; exact ⟨parts, rfl, hl, hp⟩
  | _ => simp_all
/-- a struct, field by field -/
def TFields (T : Tbl) : List (Nat × TypeId) → List D → Prop
  | [], cs => cs = []
  | f :: fs, cs => ∃ p r, cs = p ++ r ∧ TC T f.2 p ∧ TFields T fs r
theorem tfields_of : ∀ (fs : List (Nat × TypeId)) (parts : List (List D)), parts.length = fs.length → (∀ (i : Nat) (p : List D) (f : Nat × TypeId), parts[i]? = some p → fs[i]? = some f → TC T f.2 p) → TFields T fs parts.flatten
  | [], parts, hl, _ => by
    have : parts = [] := List.eq_nil_of_length_eq_zero hl
    subst this; simp [TFields]
  | f :: fs, [], hl, _ => by simp at hl
  | f :: fs, p :: parts, hl, h => by
    simp only [TFields, List.flatten_cons]
    exact ⟨p, parts.flatten, rfl, h 0 p f (by simp) (by simp), tfields_of fs parts (by simpa using hl) fun i p' f' hp hf => h (i + 1) p' f' (by simpa using hp) (by simpa using hf)⟩
theorem TC.fields {fs : List (Nat × TypeId)} (h : T t = some ⟨.struct fs, a, b, z⟩) (hc : TC T t cs) : TFields T fs cs := by
  obtain ⟨parts, rfl, hl, hp⟩ := hc.struct_inv h
  exact tfields_of fs parts hl hp
/-- one argument after another -/
theorem TArgs.cons_inv {ts : List TypeId} {ds : List D} (h : TArgs T (t :: ts) ds) : ∃ d r, ds = d :: r ∧ (∃ ti cs, T t = some ti ∧ TC T t cs ∧ d = (if ti.td.isAgg then .agg cs else cs.headD default)) ∧ TArgs T ts r := h
theorem TArgs.nil_inv {ds : List D} (h : TArgs T [] ds) : ds = [] := h
/-- an argument that is a struct -/
theorem targ_struct {fs : List (Nat × TypeId)} {d : D} (h : T t = some ⟨.struct fs, a, b, z⟩) (hd : ∃ ti cs, T t = some ti ∧ TC T t cs ∧ d = (if ti.td.isAgg then .agg cs else cs.headD default)) : ∃ cs, d = .agg cs ∧ TFields T fs cs := by
  obtain ⟨ti, cs, h1, h2, h3⟩ := hd
  rw [h] at h1; injection h1 with h1; subst h1
  exact ⟨cs, h3, h2.fields h⟩
theorem targ_int {k : IntKind} {d : D} (h : T t = some ⟨.int k, a, b, z⟩) (hd : ∃ ti cs, T t = some ti ∧ TC T t cs ∧ d = (if ti.td.isAgg then .agg cs else cs.headD default)) : ∃ n, d = .v (.int k n) ∧ (Lit.int k n).wf = true := by
  obtain ⟨ti, cs, h1, h2, h3⟩ := hd
  rw [h] at h1; injection h1 with h1; subst h1
  obtain ⟨n, rfl, hw⟩ := h2.int_inv h
  exact ⟨n, h3, hw⟩
theorem targ_bool {d : D} (h : T t = some ⟨.bool, a, b, z⟩) (hd : ∃ ti cs, T t = some ti ∧ TC T t cs ∧ d = (if ti.td.isAgg then .agg cs else cs.headD default)) : ∃ x, d = .v (.bool x) := by
  obtain ⟨ti, cs, h1, h2, h3⟩ := hd
  rw [h] at h1; injection h1 with h1; subst h1
  obtain ⟨n, rfl⟩ := h2.bool_inv h
  exact ⟨n, h3⟩
theorem targ_str {d : D} (h : T t = some ⟨.str, a, b, z⟩) (hd : ∃ ti cs, T t = some ti ∧ TC T t cs ∧ d = (if ti.td.isAgg then .agg cs else cs.headD default)) : ∃ s : ByteArray, d = .v (.string s) ∧ s.size ≤ maxLen := by
  obtain ⟨ti, cs, h1, h2, h3⟩ := hd
  rw [h] at h1; injection h1 with h1; subst h1
  obtain ⟨s, rfl, hs⟩ := h2.str_inv h
  exact ⟨s, h3, hs⟩
theorem targ_slice {d : D} (h : T t = some ⟨.slice e, a, b, z⟩) (hd : ∃ ti cs, T t = some ti ∧ TC T t cs ∧ d = (if ti.td.isAgg then .agg cs else cs.headD default)) : ∃ chunks : List (List D), d = .ro chunks.length chunks.flatten ∧ chunks.length ≤ maxLen ∧ ∀ c ∈ chunks, TC T e c := by
  obtain ⟨ti, cs, h1, h2, h3⟩ := hd
  rw [h] at h1; injection h1 with h1; subst h1
  obtain ⟨chunks, rfl, hs, hc⟩ := h2.slice_inv h
  exact ⟨chunks, h3, hs, hc⟩
theorem wf_i64 {n : Int} (h : (Lit.int .i64 n).wf = true) : -9223372036854775808 ≤ n ∧ n < 9223372036854775808 := by
  simp [Lit.wf, IntKind.min, IntKind.max, IntKind.bits, IntKind.signed] at h; omega
end

/-! ### math/bits.Add64, Sub64 -/
theorem rdT3 {E : Ctx} {k : IntKind} {x y c : Int} {vals : List Value} (h : RdT E [.v (.int k x), .v (.int k y), .v (.int k c)] vals) : vals = [.int k x, .int k y, .int k c] := by
  simp only [RdT, Rd] at h
  obtain ⟨u, r, rfl, rfl, u2, r2, rfl, rfl, u3, r3, rfl, rfl, rfl⟩ := h
  rfl
theorem rd_two {E : Ctx} (x y : Value) : Rd E (.tup [.v x, .v y]) (.tuple #[x, y]) := by
  simp only [Rd]
  exact ⟨#[x, y], rfl, by simp [RdT, Rd]⟩
/-- the model's own entry, by its place in its table -/
def sub64E : Array Value → Sem Value := (Extern.MathBitsCarry.rows.getD 1 ("", fun _ => .pure undef)).2
theorem run_sub64E {P : Program} (x y b : Int) (hx : 0 ≤ x) (hy : 0 ≤ y) (hx2 : x < 18446744073709551616) (hy2 : y < 18446744073709551616) (h0 : 0 ≤ b) (hb : b ≤ 1) (w : World) :
    (sub64E #[.int .u64 x, .int .u64 y, .int .u64 b]).run P w = .ok (.tuple #[.int .u64 ((x - y - b) % 18446744073709551616), .int .u64 (bif decide (x < y + b) then 1 else 0)]) w := by
  obtain ⟨X, rfl⟩ := Int.eq_ofNat_of_zero_le hx
  obtain ⟨Y, rfl⟩ := Int.eq_ofNat_of_zero_le hy
  obtain ⟨B, rfl⟩ := Int.eq_ofNat_of_zero_le h0
  have key : ∀ B : Nat, B ≤ 1 → (sub64E #[.int .u64 (X : Int), .int .u64 (Y : Int), .int .u64 (B : Int)]).run P w = .ok (Extern.MathBitsCarry.pair ((X + Extern.MathBitsCarry.m64 - Y - B) % Extern.MathBitsCarry.m64) (if X < Y + B then 1 else 0)) w := by
    intro B hB
    have : B = 0 ∨ B = 1 := by omega
    rcases this with rfl | rfl <;> rfl
  rw [key B (by omega)]
  have e1 : Extern.MathBitsCarry.m64 = 18446744073709551616 := by decide
  have e2 : (((X + 18446744073709551616 - Y - B) % 18446744073709551616 : Nat) : Int) = ((X : Int) - Y - B) % 18446744073709551616 := by omega
  have e3 : ((if X < Y + B then 1 else 0 : Nat) : Int) = bif decide ((X : Int) < (Y : Int) + (B : Int)) then 1 else 0 := by
    by_cases h : X < Y + B
    · have h' : (X : Int) < (Y : Int) + (B : Int) := by omega
      simp [h, h']
    · have h' : ¬ (X : Int) < (Y : Int) + (B : Int) := by omega
      simp [h, h']
  simp only [Extern.MathBitsCarry.pair, e1, Int.ofNat_eq_natCast, e2, e3]
theorem ext_add64 {P : Program} {f : FuncId} {fn : Func} (hf : P.funcs[f]? = some fn) (hname : (fn.name == "runtime.NumGoroutine") = false) (hb : fn.body.isNone = true) (hn : Extern.findNext fn = none) (he : Extern.find fn = some add64Entry)
    {x y c : Int} (hx : 0 ≤ x) (hy : 0 ≤ y) (hc0 : 0 ≤ c) (hc : c ≤ 1) : ExtJ P f [.v (.int .u64 x), .v (.int .u64 y), .v (.int .u64 c)] (.tup [.v (.int .u64 ((x + y + c) % 18446744073709551616)), .v (.int .u64 ((x + y + c) / 18446744073709551616))]) := by
  intro E vals w hr
  rw [rdT3 hr]
  refine ⟨_, ?_, rd_two _ _⟩
  rw [run_callFunc_extern hf hname hb hn he]
  have := run_add64 (P := P) x y c hx hy hc0 hc w
  simp only [this, Result.andThen]
theorem ext_sub64 {P : Program} {f : FuncId} {fn : Func} (hf : P.funcs[f]? = some fn) (hname : (fn.name == "runtime.NumGoroutine") = false) (hb : fn.body.isNone = true) (hn : Extern.findNext fn = none) (he : Extern.find fn = some sub64E)
    {x y b : Int} (hx : 0 ≤ x) (hy : 0 ≤ y) (hx2 : x < 18446744073709551616) (hy2 : y < 18446744073709551616) (hc0 : 0 ≤ b) (hc : b ≤ 1) : ExtJ P f [.v (.int .u64 x), .v (.int .u64 y), .v (.int .u64 b)] (.tup [.v (.int .u64 ((x - y - b) % 18446744073709551616)), .v (.int .u64 (bif decide (x < y + b) then 1 else 0))]) := by
  intro E vals w hr
  rw [rdT3 hr]
  refine ⟨_, ?_, rd_two _ _⟩
  rw [run_callFunc_extern hf hname hb hn he]
  have := run_sub64E (P := P) x y b hx hy hx2 hy2 hc0 hc w
  simp only [this, Result.andThen]
end Go.VD
