/- The conditions of operations, as computed truth values. -/
import Derived.Test.YthnhfkpihbjddaaVq
namespace Go.VD
set_option linter.unusedVariables false
set_option linter.unusedSimpArgs false

def pickB : Option D → Option D → Option D → Bool
  | some (.v (.bool x)), some (.v (.bool a)), some (.v (.bool b)) => true
  | some (.v (.bool x)), some da, some db => true
  | some (.v (.bool x)), some da, none => x
  | some (.v (.bool x)), none, some db => !x
  | _, _, _ => false
theorem pickB_ok {a b c : Option D} {d : D} {p : Prop} (h : pickD a b c = some (d, p)) (hb : pickB a b c = true) : p := by
  unfold pickD at h
  split at h <;> first
    | (obtain ⟨_, rfl⟩ := pair_inj h; trivial)
    | (obtain ⟨_, rfl⟩ := pair_inj h; simpa [pickB] using hb)
    | cases h

def binB (op : BinOp) : Value → Value → Bool
  | .int _ a, .int _ b => match op with
    | .shl => decide (0 ≤ b)
    | .shr => decide (0 ≤ b)
    | .quo => b != 0
    | .rem => b != 0
    | _ => true
  | .string x, .string y => match op with
    | .add => decide (((x.size + y.size : Nat) : Int) ≤ IntKind.i64.max)
    | _ => true
  | _, _ => true
theorem binB_ok {td : Option TD} {op : BinOp} {x y : Value} {q : Value × Prop} (h : binV td op x y = some q) (hb : binB op x y = true) : q.2 := by
  unfold binV at h
  split at h
  · cases op
    case shl => injection h with h; subst h; simpa [binB] using hb
    case shr => injection h with h; subst h; simpa [binB] using hb
    all_goals
      simp only at h
      split at h
      · cases h
      · injection h with h
        subst h
        first
          | trivial
          | (simpa [binB] using hb)
  · cases op <;> first
      | (cases h; done)
      | (injection h with h; subst h; first | trivial | (simpa [binB] using hb))
  · split at h <;> first
      | (cases h; done)
      | (injection h with h; subst h; trivial)
  · split at h <;> first
      | (cases h; done)
      | (injection h with h; subst h; trivial)
  · cases h
  · cases h
def binDB (op : BinOp) : Option D → Option D → Bool
  | some (.v x), some (.v y) => binB op x y
  | some (.ro n _), some (.v (.slice none 0 0)) => decide (0 < n)
  | some (.sl _ _ n _), some (.v (.slice none 0 0)) => decide (0 < n)
  | _, _ => false
theorem nilCmpB_ok {td : Option TD} {op : BinOp} {n : Nat} {d : D} {p : Prop} (h : nilCmp td op n = some (d, p)) (hb : decide (0 < n) = true) : p := by
  unfold nilCmp at h
  split at h
  · obtain ⟨_, rfl⟩ := pair_inj h; simpa using hb
  · obtain ⟨_, rfl⟩ := pair_inj h; simpa using hb
  · cases h
theorem binDB_ok {td : Option TD} {op : BinOp} {a b : Option D} {d : D} {p : Prop} (h : binD td op a b = some (d, p)) (hb : binDB op a b = true) : p := by
  unfold binD at h
  split at h
  · simp only [binDB] at hb
    cases hv : binV td op _ _ with
    | none => rw [hv] at h; cases h
    | some q =>
      rw [hv] at h
      have h1 : (.v q.1, q.2) = (d, p) := by simpa using h
      have := binB_ok hv hb
      injection h1 with _ h2
      rw [← h2]; exact this
  · exact nilCmpB_ok h (by simpa only [binDB] using hb)
  · exact nilCmpB_ok h (by simpa only [binDB] using hb)
  · cases h

def isIntB (k : IntKind) : D → Bool
  | .v (.int k' _) => k' == k
  | _ => false
theorem isIntB_ok {k : IntKind} {d : D} (h : isIntB k d = true) : IsInt k d := by
  unfold isIntB at h
  split at h
  · rename_i k' n
    have : k' = k := by simpa using h
    subst this; rfl
  · cases h
def isBoolB : D → Bool
  | .v (.bool _) => true
  | _ => false
theorem isBoolB_ok {d : D} (h : isBoolB d = true) : IsBool d := by
  unfold isBoolB at h
  split at h
  · rfl
  · cases h
def isStrB : D → Bool
  | .v (.string _) => true
  | _ => false
theorem isStrB_ok {d : D} (h : isStrB d = true) : IsStr d := by
  unfold isStrB at h
  split at h
  · rfl
  · cases h
def partB (ti : TI) (xs : List D) (off : Nat) : Bool :=
  match ti.td with
  | .struct _ => decide (off + ti.size ≤ xs.length)
  | .arr _ _ => decide (off + ti.size ≤ xs.length)
  | .int k => decide (off < xs.length) && isIntB k (xs.getD off default)
  | .bool => decide (off < xs.length) && isBoolB (xs.getD off default)
  | .str => decide (off < xs.length) && isStrB (xs.getD off default)
  | _ => decide (off < xs.length)
theorem partB_ok {ti : TI} {xs : List D} {off : Nat} (h : partB ti xs off = true) : (partD ti xs off).2 := by
  unfold partB at h
  unfold partD
  cases htd : ti.td <;> simp only [htd] at h ⊢
  case int k => simp only [Bool.and_eq_true, decide_eq_true_eq] at h; exact ⟨h.1, isIntB_ok h.2⟩
  case bool => simp only [Bool.and_eq_true, decide_eq_true_eq] at h; exact ⟨h.1, isBoolB_ok h.2⟩
  case str => simp only [Bool.and_eq_true, decide_eq_true_eq] at h; exact ⟨h.1, isStrB_ok h.2⟩
  all_goals simpa using h

def fieldB (F : Option (Nat × TI)) : Option D → Bool
  | some (.agg xs) => match F with
    | some (off, ti) => partB ti xs off
    | none => false
  | _ => false
theorem fieldB_ok {F : Option (Nat × TI)} {x : Option D} {d : D} {p : Prop} (h : fieldD F x = some (d, p)) (hb : fieldB F x = true) : p := by
  unfold fieldD at h
  split at h
  · split at h
    · simp only [fieldB] at hb
      have := partB_ok hb
      injection h with h
      rw [h] at this; exact this
    · cases h
  · cases h
def idxB (i : Int) (n : Nat) : Bool := decide (0 ≤ i) && decide (i < n)
theorem idxB_ok {i : Int} {n : Nat} (h : idxB i n = true) : 0 ≤ i ∧ i < n := by
  simpa [idxB] using h
def indexAddrB (t : Option TI) : Option D → Option D → Bool
  | some (.ro n xs), some (.v (.int _ i)) => idxB i n
  | some (.sl b off n _), some (.v (.int _ i)) => idxB i n
  | some (.ptr b off), some (.v (.int _ i)) => match t with
    | some ⟨.arr m e, _, _, _⟩ => idxB i m
    | _ => false
  | some (.rp xs j), some (.v (.int _ i)) => match t with
    | some ⟨.arr m e, _, _, _⟩ => idxB i m
    | _ => false
  | _, _ => false
theorem indexAddrB_ok {T : Tbl} {t : Option TI} {x y : Option D} {d : D} {p : Prop} (h : indexAddrD T t x y = some (d, p)) (hb : indexAddrB t x y = true) : p := by
  unfold indexAddrD at h
  split at h <;> first
    | (cases h; done)
    | (split at h
       · split at h
         · obtain ⟨_, rfl⟩ := pair_inj h
           exact idxB_ok (by simpa only [indexAddrB] using hb)
         · cases h
       · cases h)
def indexB (T : Tbl) (t : Option TI) : Option D → Option D → Bool
  | some (.v (.string s)), some (.v (.int _ i)) => idxB i s.size
  | some (.agg xs), some (.v (.int _ i)) => match t with
    | some ⟨.arr m e, _, _, _⟩ => match T e with
      | some ti => idxB i m && partB ti xs (i.toNat * ti.size)
      | none => false
    | _ => false
  | _, _ => false
theorem indexB_ok {T : Tbl} {t : Option TI} {x y : Option D} {d : D} {p : Prop} (h : indexD T t x y = some (d, p)) (hb : indexB T t x y = true) : p := by
  unfold indexD at h
  split at h
  · split at h
    · obtain ⟨_, rfl⟩ := pair_inj h
      exact idxB_ok (by simpa only [indexB] using hb)
    · cases h
  · split at h
    · split at h
      · rename_i ti hti
        simp only at h
        obtain ⟨_, rfl⟩ := pair_inj h
        simp only [indexB, hti, Bool.and_eq_true] at hb
        exact ⟨idxB_ok hb.1, partB_ok hb.2⟩
      · cases h
    · cases h
  · cases h
def cellsZB : List Value → List D → Nat → Bool
  | [], _, _ => true
  | .int k _ :: r, xs, off => isIntB k (xs.getD off default) && cellsZB r xs (off + 1)
  | .bool _ :: r, xs, off => isBoolB (xs.getD off default) && cellsZB r xs (off + 1)
  | _ :: r, xs, off => cellsZB r xs (off + 1)
theorem cellsZB_ok : ∀ (z : List Value) (xs : List D) (off : Nat), cellsZB z xs off = true → cellsZC z xs off
  | [], _, _, _ => trivial
  | u :: r, xs, off, h => by
    cases u <;> simp only [cellsZB, cellsZC, Bool.and_eq_true] at h ⊢
    case int k n => exact ⟨isIntB_ok h.1, cellsZB_ok r xs _ h.2⟩
    case bool b => exact ⟨isBoolB_ok h.1, cellsZB_ok r xs _ h.2⟩
    all_goals exact cellsZB_ok r xs _ h
def partCB (ti : TI) (xs : List D) (off : Nat) : Bool :=
  match ti.td with
  | .struct _ => decide (off + ti.size ≤ xs.length) && cellsZB ti.zero xs off
  | .arr _ _ => decide (off + ti.size ≤ xs.length) && cellsZB ti.zero xs off
  | _ => partB ti xs off
theorem partCB_ok {ti : TI} {xs : List D} {off : Nat} (h : partCB ti xs off = true) : (partC ti xs off).2 := by
  unfold partCB at h
  unfold partC
  cases htd : ti.td <;> simp only [htd] at h ⊢
  case struct => simp only [Bool.and_eq_true, decide_eq_true_eq] at h; exact ⟨h.1, cellsZB_ok _ _ _ h.2⟩
  case arr => simp only [Bool.and_eq_true, decide_eq_true_eq] at h; exact ⟨h.1, cellsZB_ok _ _ _ h.2⟩
  all_goals exact partB_ok h
def loadB (t : Option TI) : Option D → Bool
  | some (.rp xs j) => match t with
    | some ti => partCB ti xs j
    | none => false
  | _ => false
theorem loadB_ok {t : Option TI} {x : Option D} {d : D} {p : Prop} (h : loadP t x = some (d, p)) (hb : loadB t x = true) : p := by
  unfold loadP at h
  split at h
  · split at h
    · simp only [loadB] at hb
      have := partCB_ok hb
      injection h with h
      rw [h] at this; exact this
    · cases h
  · cases h
def sliceCB (n : Nat) (lo hi mx : Option Int) : Bool :=
  (match lo with | none => true | some i => decide (0 ≤ i) && decide (i ≤ hiN n hi)) &&
  ((match hi with | none => true | some j => decide (0 ≤ j) && decide (j ≤ hiN n mx)) &&
  (match mx with | none => true | some m => decide (0 ≤ m) && (decide (m ≤ n) && hi.isSome)))
theorem sliceCB_ok {n : Nat} {lo hi mx : Option Int} (h : sliceCB n lo hi mx = true) : sliceC n lo hi mx := by
  unfold sliceCB at h
  unfold sliceC
  simp only [Bool.and_eq_true] at h
  refine ⟨?_, ?_, ?_⟩
  · cases lo <;> simp_all
  · cases hi <;> simp_all
  · cases mx <;> simp_all
def capB (es : Nat) : Cap → Bool
  | .exact _ e => e == es
  | .toEnd e => e == es
def sliceB (T : Tbl) (t : Option TI) (lo hi mx : Option (Option Int)) : Option D → Bool
  | some (.ro n xs) => match lo, hi, mx with
    | some lo, some hi, some mx => sliceCB n lo hi mx
    | _, _, _ => false
  | some (.sl b off n c) => match t, lo, hi, mx with
    | some ⟨.slice e, _, _, _⟩, some lo, some hi, some mx => match T e with
      | some ti => sliceCB n lo hi mx && capB ti.size c
      | none => false
    | _, _, _, _ => false
  | some (.ptr b off) => match t, lo, hi, mx with
    | some ⟨.arr m e, _, _, _⟩, some lo, some hi, some none => sliceCB m lo hi none && decide (m ≤ maxLen)
    | _, _, _, _ => false
  | some (.v (.string s)) => match lo, hi with
    | some lo, some hi => sliceCB s.size lo hi none
    | _, _ => false
  | some (.v (.slice none 0 0)) => match lo, hi, mx with
    | some lo, some hi, some mx => sliceCB 0 lo hi mx
    | _, _, _ => false
  | _ => false
theorem sliceB_ok {T : Tbl} {t : Option TI} {lo hi mx : Option (Option Int)} {x : Option D} {d : D} {p : Prop} (h : sliceD T t lo hi mx x = some (d, p)) (hb : sliceB T t lo hi mx x = true) : p := by
  unfold sliceD at h
  split at h
  · split at h
    · split at h
      · obtain ⟨_, rfl⟩ := pair_inj h
        exact sliceCB_ok (by simpa only [sliceB] using hb)
      · cases h
    · cases h
  · split at h
    · split at h
      · rename_i ti hti
        obtain ⟨_, rfl⟩ := pair_inj h
        simp only [sliceB, hti, Bool.and_eq_true] at hb
        refine ⟨sliceCB_ok hb.1, ?_⟩
        have := hb.2
        unfold capB at this
        split <;> simp_all
      · cases h
    · cases h
  · split at h
    · split at h
      · obtain ⟨_, rfl⟩ := pair_inj h
        simp only [sliceB, Bool.and_eq_true, decide_eq_true_eq] at hb
        exact ⟨sliceCB_ok hb.1, hb.2⟩
      · cases h
    · cases h
  · split at h
    · obtain ⟨_, rfl⟩ := pair_inj h
      exact sliceCB_ok (by simpa only [sliceB] using hb)
    · cases h
  · split at h
    · split at h
      · obtain ⟨_, rfl⟩ := pair_inj h
        exact sliceCB_ok (by simpa only [sliceB] using hb)
      · cases h
    · cases h
  · cases h

def eqFsB (f : Option TI → D → D → Bool) (T : Tbl) (xs ys : List D) : List (Nat × TypeId) → Bool
  | [] => true
  | (off, ft) :: r => match T ft with
    | some ti => (partB ti xs off && partB ti ys off) && (f (some ti) (partD ti xs off).1 (partD ti ys off).1 && eqFsB f T xs ys r)
    | none => false
def eqDB (T : Tbl) : Nat → Option TI → D → D → Bool
  | 0, _, _, _ => false
  | n + 1, some ti, x, y => match ti.td, x, y with
    | .struct fs, .agg xs, .agg ys => eqFsB (eqDB T n) T xs ys fs
    | .arr m e, .agg xs, .agg ys => match T e with
      | some te => eqFsB (eqDB T n) T xs ys (arrFs m e te.size)
      | none => false
    | _, _, _ => true
  | _, none, _, _ => false
theorem eqFsB_ok {T : Tbl} {n : Nat} (ih : ∀ (t : Option TI) (x y : D) (b : Bool) (c : Prop), eqD T n t x y = some (b, c) → eqDB T n t x y = true → c) {xs ys : List D} :
    ∀ (fs : List (Nat × TypeId)) (b : Bool) (c : Prop), eqFs (eqD T n) T xs ys fs = some (b, c) → eqFsB (eqDB T n) T xs ys fs = true → c
  | [], b, c, h, hb => by simp only [eqFs] at h; obtain ⟨_, rfl⟩ := pair_inj h; trivial
  | (off, ft) :: r, b, c, h, hb => by
    simp only [eqFs] at h
    simp only [eqFsB] at hb
    split at h
    · rename_i ti hti
      simp only [hti, Bool.and_eq_true] at hb
      split at h
      · rename_i b1 c1 b2 c2 h1 h2
        obtain ⟨_, rfl⟩ := pair_inj h
        exact ⟨⟨partB_ok hb.1.1, partB_ok hb.1.2⟩, ih _ _ _ _ _ h1 hb.2.1, eqFsB_ok ih r _ _ h2 hb.2.2⟩
      · cases h
    · cases h
theorem eqDB_ok {T : Tbl} : ∀ (n : Nat) (t : Option TI) (x y : D) (b : Bool) (c : Prop), eqD T n t x y = some (b, c) → eqDB T n t x y = true → c
  | 0, t, x, y, b, c, h, _ => by simp [eqD] at h
  | n + 1, none, x, y, b, c, h, _ => by simp [eqD] at h
  | n + 1, some ti, x, y, b, c, h, hb => by
    simp only [eqD] at h
    split at h
    · split at h
      · obtain ⟨_, rfl⟩ := pair_inj h; trivial
      · cases h
    · obtain ⟨_, rfl⟩ := pair_inj h; trivial
    · obtain ⟨_, rfl⟩ := pair_inj h; trivial
    · rename_i htd
      simp only [eqDB, htd] at hb
      exact eqFsB_ok (fun t x y b c => eqDB_ok n t x y b c) _ _ _ h hb
    · rename_i htd
      simp only [eqDB, htd] at hb
      split at h
      · rename_i te hte
        simp only [hte] at hb
        exact eqFsB_ok (fun t x y b c => eqDB_ok n t x y b c) _ _ _ h hb
      · cases h
    · cases h
def aggEqB (T : Tbl) (t : Option TI) : Option D → Option D → Bool
  | some x, some y => eqDB T 10 t x y
  | _, _ => false
theorem aggEqB_ok {T : Tbl} {op : BinOp} {t : Option TI} {x y : Option D} {d : D} {c : Prop} (h : aggEq T op t x y = some (d, c)) (hb : aggEqB T t x y = true) : c := by
  unfold aggEq at h
  split at h
  · simp only [aggEqB] at hb
    split at h
    · rename_i he; obtain ⟨_, rfl⟩ := pair_inj h; exact eqDB_ok _ _ _ _ _ _ he hb
    · rename_i he; obtain ⟨_, rfl⟩ := pair_inj h; exact eqDB_ok _ _ _ _ _ _ he hb
    · cases h
  · cases h
def opPB (T : Tbl) (env : Env) : Op → Bool
  | .pick c a b => pickB (opnd env c) (opnd env a) (opnd env b)
  | .binOp op t x y _ => bif isAggD (opnd env x) then aggEqB T (T t) (opnd env x) (opnd env y) else binDB op (opnd env x) (opnd env y)
  | .field s x f => fieldB (fieldOf T s f) (opnd env x)
  | .indexAddr t x i => indexAddrB (T t) (opnd env x) (opnd env i)
  | .index t x i => indexB T (T t) (opnd env x) (opnd env i)
  | .load t x => loadB (T t) (opnd env x)
  | .slice t x lo hi mx => sliceB T (T t) (intO env lo) (intO env hi) (intO env mx) (opnd env x)
  | _ => true
theorem mmL_ok {m : Bool} : ∀ (ds : List D) (d e : D) (p : Prop), mmL m d ds = some (e, p) → p
  | [], d, e, p, h => by simp only [mmL] at h; obtain ⟨_, rfl⟩ := pair_inj h; trivial
  | f :: ds, d, e, p, h => by
    simp only [mmL] at h
    split at h
    · exact mmL_ok ds _ e p h
    · cases h
theorem mmA_ok {m : Bool} {o : Option (List D)} {d : D} {p : Prop} (h : mmA m o = some (d, p)) : p := by
  unfold mmA at h
  split at h
  · exact mmL_ok _ _ _ _ h
  · cases h
theorem opPB_ok {T : Tbl} {env : Env} {op : Op} {d : D} {p : Prop} (h : opP T env op = some (d, p)) (hb : opPB T env op = true) : p := by
  cases op
  case pick => exact pickB_ok h hb
  case binOp op t x y yt =>
    simp only [opP] at h
    simp only [opPB] at hb
    cases hia : isAggD (opnd env x) with
    | true => rw [hia] at h hb; exact aggEqB_ok h hb
    | false => rw [hia] at h hb; exact binDB_ok h hb
  case field => exact fieldB_ok h hb
  case indexAddr => exact indexAddrB_ok h hb
  case index => exact indexB_ok h hb
  case load => exact loadB_ok h hb
  case slice => exact sliceB_ok h hb
  case move x => simp only [opP] at h; cases hx : opnd env x <;> simp_all
  case assign x => simp only [opP] at h; cases hx : opnd env x <;> simp_all
  case unOp op t x =>
    simp only [opP, unD] at h
    split at h
    · rename_i y _
      cases hv : unV op y <;> simp_all
    · cases h
  case convert s t x =>
    simp only [opP, convD] at h
    split at h
    · rename_i y _
      cases hv : convV ((T s).map (·.td)) ((T t).map (·.td)) y <;> simp_all
    · cases h
  case fieldAddr s x f =>
    simp only [opP, fieldAddrD] at h
    split at h
    · split at h
      · split at h
        · cases h
        · obtain ⟨_, rfl⟩ := pair_inj h; trivial
      · cases h
    · split at h
      · split at h
        · cases h
        · obtain ⟨_, rfl⟩ := pair_inj h; trivial
      · cases h
    · cases h
  case extract x i =>
    simp only [opP, extractD] at h
    split at h
    · split at h
      · obtain ⟨_, rfl⟩ := pair_inj h; trivial
      · cases h
    · cases h
  case build t parts =>
    simp only [opP, buildD] at h
    split at h
    · split at h
      · rename_i fs _ _ zero _ _
        cases hv : fillD (placeD T fs) env (zero.map .v) parts.toList <;> simp_all
      · cases h
    · split at h
      · simp only [Option.map_eq_some_iff] at h
        obtain ⟨a, _, h⟩ := h
        obtain ⟨_, rfl⟩ := pair_inj (congrArg some h)
        trivial
      · cases h
    · cases h
  case makeInterface t x =>
    simp only [opP, ifcD] at h
    split at h
    · split at h
      · split at h
        · cases h
        · obtain ⟨_, rfl⟩ := pair_inj h; trivial
      · cases h
    · cases h
  case makeFunc fn first caps =>
    simp only [opP, funcD] at h
    split at h
    · cases hv : getAll env (first.toList ++ caps.toList) <;> simp_all
    · cases h
  case nilCheck x =>
    simp only [opP, nilCheckD] at h
    split at h
    · obtain ⟨_, rfl⟩ := pair_inj h; trivial
    · obtain ⟨_, rfl⟩ := pair_inj h; trivial
    · cases h
  case call c =>
    obtain ⟨callee, args, ts⟩ := c
    cases callee with
    | value f => simp [opP] at h
    | invoke r m => simp [opP] at h
    | builtin b =>
      simp only [opP, callB] at h
      split at h
      · unfold lenD at h
        repeat (split at h <;> first | (cases h; done) | (obtain ⟨_, rfl⟩ := pair_inj h; trivial) | skip)
      · unfold capV at h
        repeat (split at h <;> first | (cases h; done) | (obtain ⟨_, rfl⟩ := pair_inj h; trivial) | skip)
      · unfold mm2 at h
        repeat (split at h <;> first | (cases h; done) | (obtain ⟨_, rfl⟩ := pair_inj h; trivial) | skip)
      · unfold mm2 at h
        repeat (split at h <;> first | (cases h; done) | (obtain ⟨_, rfl⟩ := pair_inj h; trivial) | skip)
      · exact mmA_ok h
      · exact mmA_ok h
      · cases h
  all_goals (simp [opP] at h)
end Go.VD
