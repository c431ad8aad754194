/- The types' table as a list of plain rows, held against the program; scalar operations on data. -/
import Derived.Test.YthnhfkpihbjddaaVa
namespace Go.VD
set_option linter.unusedVariables false

inductive TD where
  | bool | int (k : IntKind) | str | slice (e : TypeId) | arr (n : Nat) (e : TypeId) | struct (fs : List (Nat × TypeId)) | ptr (e : TypeId) | fn | other
  deriving DecidableEq

structure TI where
  td : TD
  size : Nat
  bytes : Nat
  zero : List Value

abbrev Tbl := TypeId → Option TI

/-- is u the value x, both without addresses -/
def sameScalar : Value → Value → Bool
  | .bool a, .bool b => a == b
  | .int k a, .int l b => k == l && a == b
  | .string a, .string b => a.data.toList == b.data.toList
  | .pointer none, .pointer none => true
  | .slice none a b, .slice none c d => a == c && b == d
  | .map none, .map none => true
  | .nilFunc, .nilFunc => true
  | .nilIface, .nilIface => true
  | _, _ => false
theorem sameScalar_eq : ∀ {x y : Value}, sameScalar x y = true → x = y ∧ x.oneCell' = true := by
  intro x y h
  unfold sameScalar at h
  split at h <;> first | (cases h; done) | skip
  all_goals simp only [Bool.and_eq_true, beq_iff_eq] at h
  all_goals first
    | exact ⟨rfl, rfl⟩
    | (subst h; exact ⟨rfl, rfl⟩)
    | (obtain ⟨h1, h2⟩ := h; subst h1; subst h2; exact ⟨rfl, rfl⟩)
    | (rename_i a b; cases a; cases b; simp_all [Array.toList_inj, Value.oneCell'])
def sameScalars : List Value → List Value → Bool
  | [], [] => true
  | x :: xs, y :: ys => sameScalar x y && sameScalars xs ys
  | _, _ => false
theorem sameScalars_eq : ∀ {xs ys : List Value}, sameScalars xs ys = true → xs = ys ∧ ∀ u ∈ xs, u.oneCell' = true
  | [], ys, h => by cases ys <;> simp_all [sameScalars]
  | x :: xs, ys, h => by
    cases ys with
    | nil => simp [sameScalars] at h
    | cons y ys =>
      simp only [sameScalars, Bool.and_eq_true] at h
      obtain ⟨h1, h2⟩ := sameScalar_eq h.1
      obtain ⟨h3, h4⟩ := sameScalars_eq h.2
      subst h1; subst h3
      exact ⟨rfl, fun u hu => by rcases List.mem_cons.1 hu with h | h; exact h ▸ h2; exact h4 u h⟩

def TD.isAgg : TD → Bool
  | .struct _ | .arr _ _ => true
  | _ => false
def TD.fits : TD → TypeDesc → Bool
  | .bool, .bool => true
  | .int k, .int l => k == l
  | .str, .string => true
  | .slice e, .slice f => e == f
  | .arr n e, .array m f => n == m && e == f
  | .struct fs, .struct F => F.toList.map (fun f => (f.offset, f.type)) == fs
  | .ptr e, .pointer f => e == f
  | .fn, .func .. => true
  | .other, .interface _ => true
  | .other, .map .. => true
  | .other, .float _ => true
  | _, _ => false

/-- '==' on values of this struct or array type asks nothing but its cells -/
def eqOkB (P : Program) (t : TypeId) : Bool :=
  (match P.underlying t with
  | some (.struct F) => F.toList.all (fun f => !(f.name == "_")) && !P.stoodInHeld t
  | _ => true) && !P.eqGuardType P.depth t
def tiCheck (P : Program) (t : TypeId) (ti : TI) : Bool :=
  match P.info? t, P.underlying t with
  | some i, some d => !Nat.beq t itTy && (!ti.td.isAgg || eqOkB P t) && i.size == ti.size && i.bytes == ti.bytes && ti.td.fits d && ti.zero.length == ti.size && (match i.zero with | some z => sameScalars ti.zero z.cells.toList | none => false)
  | _, _ => false

structure TiOk (P : Program) (t : TypeId) (ti : TI) : Prop where
  ex : ∃ i z d, P.info? t = some i ∧ P.underlying t = some d ∧ i.size = ti.size ∧ i.bytes = ti.bytes ∧ i.zero = some z ∧ z.cells.toList = ti.zero ∧ ti.td.fits d = true
  one : ∀ u ∈ ti.zero, u.oneCell' = true
  len : ti.zero.length = ti.size
  eq : ti.td.isAgg = true → eqOkB P t = true
  ne : t ≠ itTy

theorem tiOk_of_check {P : Program} {t : TypeId} {ti : TI} (h : tiCheck P t ti = true) : TiOk P t ti := by
  unfold tiCheck at h
  split at h
  · rename_i i d hi hd
    simp only [Bool.and_eq_true, beq_iff_eq] at h
    obtain ⟨⟨⟨⟨⟨⟨hne, h0⟩, h1⟩, h2⟩, h3⟩, h4⟩, h5⟩ := h
    have hne : t ≠ itTy := fun e => by subst e; exact absurd hne (by decide)
    split at h5
    · rename_i z hz
      obtain ⟨h6, h7⟩ := sameScalars_eq h5
      exact ⟨⟨i, z, d, hi, hd, h1, h2, hz, h6.symm, h3⟩, h7, h4, fun ha => by simpa [ha] using h0, hne⟩
    · cases h5
  · cases h

structure TblOk (P : Program) (T : Tbl) : Prop where
  ok : ∀ t ti, T t = some ti → TiOk P t ti

/-- the table as a list -/
def tblOf (l : List (TypeId × TI)) : Tbl := fun t => l.lookup t
theorem tblOk_of {P : Program} {l : List (TypeId × TI)} (h : l.all (fun p => tiCheck P p.1 p.2) = true) : TblOk P (tblOf l) := by
  refine ⟨fun t ti ht => ?_⟩
  unfold tblOf at ht
  have : ∀ l : List (TypeId × TI), l.all (fun p => tiCheck P p.1 p.2) = true → l.lookup t = some ti → tiCheck P t ti = true := by
    intro l
    induction l with
    | nil => intro _ h; simp at h
    | cons p r ih =>
      intro h1 h2
      simp only [List.all_cons, Bool.and_eq_true] at h1
      rw [List.lookup_cons] at h2
      split at h2
      · rename_i he
        have he : t = p.1 := by simpa using he
        injection h2 with h2
        subst he; subst h2
        exact h1.1
      · exact ih h1.2 h2
  exact tiOk_of_check (this l h ht)

section
variable {P : Program} {t : TypeId} {ti : TI}
theorem TiOk.und (h : TiOk P t ti) : ∃ d, P.underlying t = some d ∧ ti.td.fits d = true := by
  obtain ⟨i, z, d, _, hd, _, _, _, _, hf⟩ := h.ex
  exact ⟨d, hd, hf⟩
theorem TiOk.bool (h : TiOk P t ti) (e : ti.td = .bool) : P.underlying t = some .bool := by
  obtain ⟨d, hd, hf⟩ := h.und
  rw [e] at hf; cases d <;> simp_all [TD.fits]
theorem TiOk.int (h : TiOk P t ti) {k : IntKind} (e : ti.td = .int k) : P.underlying t = some (.int k) := by
  obtain ⟨d, hd, hf⟩ := h.und
  rw [e] at hf; cases d <;> simp_all [TD.fits]
theorem TiOk.str (h : TiOk P t ti) (e : ti.td = .str) : P.underlying t = some .string := by
  obtain ⟨d, hd, hf⟩ := h.und
  rw [e] at hf; cases d <;> simp_all [TD.fits]
theorem TiOk.slice (h : TiOk P t ti) {el : TypeId} (e : ti.td = .slice el) : P.underlying t = some (.slice el) := by
  obtain ⟨d, hd, hf⟩ := h.und
  rw [e] at hf; cases d <;> simp_all [TD.fits]
theorem TiOk.arr (h : TiOk P t ti) {n : Nat} {el : TypeId} (e : ti.td = .arr n el) : P.underlying t = some (.array n el) := by
  obtain ⟨d, hd, hf⟩ := h.und
  rw [e] at hf; cases d <;> simp_all [TD.fits]
theorem TiOk.ptr (h : TiOk P t ti) {el : TypeId} (e : ti.td = .ptr el) : P.underlying t = some (.pointer el) := by
  obtain ⟨d, hd, hf⟩ := h.und
  rw [e] at hf; cases d <;> simp_all [TD.fits]
theorem TiOk.struct (h : TiOk P t ti) {fs : List (Nat × TypeId)} (e : ti.td = .struct fs) : ∃ F : Array Field, P.underlying t = some (.struct F) ∧ F.toList.map (fun f => (f.offset, f.type)) = fs := by
  obtain ⟨d, hd, hf⟩ := h.und
  rw [e] at hf; cases d <;> simp_all [TD.fits]
theorem TiOk.run_info (h : TiOk P t ti) (w : World) : ∃ i z, (typeInfo t).run P w = .ok i w ∧ P.info? t = some i ∧ i.size = ti.size ∧ i.bytes = ti.bytes ∧ i.zero = some z ∧ z.cells.toList = ti.zero := by
  obtain ⟨i, z, d, hi, hd, h1, h2, hz, h6, hf⟩ := h.ex
  exact ⟨i, z, by simp [typeInfo, hi], hi, h1, h2, hz, h6⟩
theorem TiOk.run_size (h : TiOk P t ti) (w : World) : (sizeOf t).run P w = .ok ti.size w := by
  obtain ⟨i, z, h1, _, h2, _⟩ := h.run_info w
  simp [sizeOf, h1, h2]
theorem TiOk.run_zero (h : TiOk P t ti) : ∃ z, z.cells.toList = ti.zero ∧ ∀ w, (zeroValue t).run P w = .ok z w := by
  obtain ⟨i, z, d, hi, hd, h1, h2, hz, h6, hf⟩ := h.ex
  exact ⟨z, h6, fun w => by simp [zeroValue, typeInfo, hi, hz]⟩
def descAgg : TypeDesc → Bool
  | .struct _ | .array _ _ => true
  | _ => false
theorem TD.isAgg_fits : ∀ (td : TD) (d : TypeDesc), td.fits d = true → td.isAgg = descAgg d := by
  intro td d h
  cases td <;> cases d <;> simp_all [TD.fits, TD.isAgg, descAgg]
theorem TiOk.run_isAgg (h : TiOk P t ti) (w : World) : (isAgg t).run P w = .ok ti.td.isAgg w := by
  obtain ⟨d, hd, hf⟩ := h.und
  rw [TD.isAgg_fits _ _ hf]
  simp only [isAgg, Sem.run_bind, run_underlying hd, Result.andThen_ok]
  cases d <;> rfl
end

/-! ### Scalars -/
def bitsV (op : BinOp) (k : IntKind) (a b : Int) : Int := Go.bits op k a b

def binV (td : Option TD) (op : BinOp) : Value → Value → Option (Value × Prop)
  | .int k a, .int k' b =>
    match op with
    | .shl => some (.int k (k.wrap (a * 2 ^ (min b.toNat k.bits))), 0 ≤ b)
    | .shr => some (.int k (a.fdiv (2 ^ (min b.toNat k.bits))), 0 ≤ b)
    | op => if k ≠ k' then none else
      match op with
      | .add => some (.int k (k.wrap (a + b)), True)
      | .sub => some (.int k (k.wrap (a - b)), True)
      | .mul => some (.int k (k.wrap (a * b)), True)
      | .quo => some (.int k (k.wrap (a.tdiv b)), b ≠ 0)
      | .rem => some (.int k (a.tmod b), b ≠ 0)
      | .and => some (.int k (Go.bits .and k a b), True)
      | .or => some (.int k (Go.bits .or k a b), True)
      | .xor => some (.int k (Go.bits .xor k a b), True)
      | .andNot => some (.int k (Go.bits .andNot k a b), True)
      | .eql => some (.bool (a == b), True)
      | .neq => some (.bool (a != b), True)
      | .lss => some (.bool (a < b), True)
      | .leq => some (.bool (a ≤ b), True)
      | .gtr => some (.bool (b < a), True)
      | .geq => some (.bool (b ≤ a), True)
      | _ => none
  | .string x, .string y =>
    match op with
    | .add => some (.string (x ++ y), ((x.size + y.size : Nat) : Int) ≤ IntKind.i64.max)
    | .eql => some (.bool (x.toList == y.toList), True)
    | .neq => some (.bool !(x.toList == y.toList), True)
    | .lss => some (.bool (Op.bytesLess x.toList y.toList), True)
    | .leq => some (.bool (Op.bytesLess x.toList y.toList || x.toList == y.toList), True)
    | .gtr => some (.bool !(Op.bytesLess x.toList y.toList || x.toList == y.toList), True)
    | .geq => some (.bool !(Op.bytesLess x.toList y.toList), True)
    | _ => none
  | .bool a, .bool b =>
    match td, op with
    | some .bool, .eql => some (.bool (a == b), True)
    | some .bool, .neq => some (.bool (!(a == b)), True)
    | _, _ => none
  | .slice A _ _, .slice none 0 0 =>
    match td, op with
    | some (.slice _), .eql => some (.bool A.isNone, True)
    | some (.slice _), .neq => some (.bool (!A.isNone), True)
    | _, _ => none
  | .nilIface, _ => none
  | _, _ => none

theorem pair_inj {α β : Type _} {a a' : α} {b b' : β} (h : some (a, b) = some (a', b')) : a = a' ∧ b = b' := by
  injection h with h; injection h with h1 h2; exact ⟨h1, h2⟩
theorem run_equal_bool {P : Program} {t : TypeId} (h : P.underlying t = some .bool) (a b : Bool) (w : World) : (Op.equal t (.bool a) (.bool b)).run P w = .ok (a == b) w := by
  have e : ∀ d, (Op.equalIn (d + 1) t (.bool a) (.bool b)).run P w = .ok (a == b) w := fun d => by simp [Op.equalIn, run_underlying h]
  exact e 9999

theorem run_equal_slice {P : Program} {t e : TypeId} (h : P.underlying t = some (.slice e)) (A : Option Addr) (n c : Nat) (w : World) : (Op.equal t (.slice A n c) (.slice none 0 0)).run P w = .ok A.isNone w := by
  have e : ∀ d, (Op.equalIn (d + 1) t (.slice A n c) (.slice none 0 0)).run P w = .ok A.isNone w := fun d => by cases A <;> simp [Op.equalIn, run_underlying h]
  exact e 9999
theorem eqGuard_at_slice (op : BinOp) (t : TypeId) (ox oy : Operand) (A B : Option Addr) (n c m d : Nat) : eqGuard op t ox oy (.slice A n c) (.slice B m d) = pure () := by
  unfold eqGuard
  cases op <;> rfl
theorem binOp_at_slice (op : BinOp) (ho : op = .eql ∨ op = .neq) {P : Program} {t e : TypeId} (h : P.underlying t = some (.slice e)) (A : Option Addr) (n c : Nat) (w : World) : (binOp op t (.slice A n c) (.slice none 0 0)).run P w = .ok (.bool (if op = .eql then A.isNone else !A.isNone)) w := by
  rcases ho with rfl | rfl
  · simp only [binOp, Sem.run_bind, run_equal_slice h, Result.andThen_ok, Sem.run_pure, if_true]
  · simp only [binOp, Sem.run_bind, run_equal_slice h, Result.andThen_ok, Sem.run_pure]; rfl

theorem binV_sound {P : Program} {T : Tbl} (hT : TblOk P T) {t : TypeId} {op : BinOp} {x y z : Value} {c : Prop} (h : binV ((T t).map (·.td)) op x y = some (z, c)) (hc : c) (ox oy : Operand) (w : World) :
    (eqGuard op t ox oy x y).run P w = .ok () w ∧ (binOp op t x y).run P w = .ok z w := by
  unfold binV at h
  split at h
  · rename_i k a k' b
    refine ⟨by rw [eqGuard_at_int]; rfl, ?_⟩
    cases op
    case shl => obtain ⟨rfl, rfl⟩ := pair_inj h; simp [binOp, Op.shift, Int.not_lt.2 hc]
    case shr => obtain ⟨rfl, rfl⟩ := pair_inj h; simp [binOp, Op.shift, Int.not_lt.2 hc]
    all_goals
      simp only at h
      split at h
      · cases h
      · rename_i hk
        have hk : k = k' := by simpa using hk
        subst hk
        obtain ⟨rfl, rfl⟩ := pair_inj h
        first
        | (simp [binOp, Op.intArith]; done)
        | (simp [binOp, Op.intDiv, hc]; done)
        | (simp [binOp, Op.intCmp]; done)
        | (simp only [binOp, ne_eq, not_true_eq_false, if_false]; rfl)
  · rename_i a b
    refine ⟨by rw [eqGuard_at_string]; rfl, ?_⟩
    cases op
    case add =>
      obtain ⟨rfl, rfl⟩ := pair_inj h
      simp only [binOp, Op.stringOp]; rw [if_neg (by omega)]; rfl
    all_goals first
      | (cases h; done)
      | (obtain ⟨rfl, rfl⟩ := pair_inj h; simp only [binOp, Op.stringOp]; rfl)
  · rename_i a b
    refine ⟨by rw [eqGuard_at_bool]; rfl, ?_⟩
    split at h
    · rename_i htd
      cases hti : T t with
      | none => simp [hti] at htd
      | some ti =>
        simp [hti] at htd
        obtain ⟨rfl, rfl⟩ := pair_inj h
        simp only [binOp, Sem.run_bind, run_equal_bool ((hT.ok t ti hti).bool htd), Result.andThen_ok, Sem.run_pure]
    · rename_i htd
      cases hti : T t with
      | none => simp [hti] at htd
      | some ti =>
        simp [hti] at htd
        obtain ⟨rfl, rfl⟩ := pair_inj h
        simp only [binOp, Sem.run_bind, run_equal_bool ((hT.ok t ti hti).bool htd), Result.andThen_ok, Sem.run_pure]
    · cases h
  · rename_i A n1 c1
    refine ⟨by rw [eqGuard_at_slice]; rfl, ?_⟩
    split at h
    · rename_i htd
      cases hti : T t with
      | none => simp [hti] at htd
      | some ti =>
        simp [hti] at htd
        obtain ⟨rfl, rfl⟩ := pair_inj h
        rw [binOp_at_slice _ (.inl rfl) ((hT.ok t ti hti).slice htd)]; rfl
    · rename_i htd
      cases hti : T t with
      | none => simp [hti] at htd
      | some ti =>
        simp [hti] at htd
        obtain ⟨rfl, rfl⟩ := pair_inj h
        rw [binOp_at_slice _ (.inr rfl) ((hT.ok t ti hti).slice htd)]; rfl
    · cases h
  · cases h
  · cases h

def unV (op : UnOp) : Value → Option Value
  | .int k n => match op with
    | .neg => some (.int k (k.wrap (0 - n)))
    | .xor => some (.int k (Go.bits .xor k (if k.signed then -1 else k.max) n))
    | _ => none
  | .bool b => match op with
    | .not => some (.bool !b)
    | _ => none
  | _ => none
theorem unV_sound {P : Program} {op : UnOp} {x z : Value} (h : unV op x = some z) (w : World) : (Op.unary op x).run P w = .ok z w := by
  unfold unV at h
  split at h
  · cases op <;> simp at h <;> subst h
    · simp [Op.unary, Op.intArith]
    · rfl
  · cases op <;> simp at h <;> subst h
    simp [Op.unary]
  · cases h

def convV (s d : Option TD) : Value → Option Value
  | .int _ n => match s, d with
    | some _, some (.int k) => some (.int k (k.wrap n))
    | some _, some .str => some (.string (Utf8.encode n))
    | _, _ => none
  | .string x => match s, d with
    | some _, some .str => some (.string x)
    | _, _ => none
  | _ => none
theorem convV_sound {P : Program} {T : Tbl} (hT : TblOk P T) {s d : TypeId} {x z : Value} (h : convV ((T s).map (·.td)) ((T d).map (·.td)) x = some z) (w : World) : (convert s d x).run P w = .ok z w := by
  unfold convV at h
  split at h
  · split at h
    · rename_i htd hs hd
      cases hsi : T s with
      | none => simp [hsi] at hs
      | some si =>
        cases hdi : T d with
        | none => simp [hdi] at hd
        | some di =>
          simp [hdi] at hd
          injection h with h; subst h
          obtain ⟨ds, hds, _⟩ := (hT.ok s si hsi).und
          have hdd := (hT.ok d di hdi).int hd
          simp [convert, run_underlying hds, run_underlying hdd, Conv.intToInt]
    · rename_i htd hs hd
      cases hsi : T s with
      | none => simp [hsi] at hs
      | some si =>
        cases hdi : T d with
        | none => simp [hdi] at hd
        | some di =>
          simp [hdi] at hd
          injection h with h; subst h
          obtain ⟨ds, hds, _⟩ := (hT.ok s si hsi).und
          have hdd := (hT.ok d di hdi).str hd
          simp [convert, run_underlying hds, run_underlying hdd, Conv.intToString]
    · cases h
  · split at h
    · rename_i hs hd
      cases hsi : T s with
      | none => simp [hsi] at hs
      | some si =>
        cases hdi : T d with
        | none => simp [hdi] at hd
        | some di =>
          simp [hdi] at hd
          injection h with h; subst h
          obtain ⟨ds, hds, _⟩ := (hT.ok s si hsi).und
          have hdd := (hT.ok d di hdi).str hd
          simp [convert, run_underlying hds, run_underlying hdd]
    · cases h
  · cases h
end Go.VD
