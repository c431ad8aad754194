import Derived.Test.YtahiigfpikohgaaZTr6
import Derived.ScopeJumps
section
namespace Go.VD
set_option linter.unusedVariables false
set_option linter.unusedSimpArgs false
def pickB : Option D → Option D → Option D → Bool
  | some (.v (.bool x)), some (.v (.bool a)), some (.v (.bool b)) => true
  | some (.v (.bool x)), some da, some db => true
  | some (.v (.bool x)), some da, none => x
  | some (.v (.bool x)), none, some db => !x
  | _, _, _ => false
theorem pickB_ok {a b c : Option D} {d : D} {p : Prop} (h : pickD a b c = some (d, p)) (hb : pickB a b c = true) : p := by
  unfold pickD at h
  split at h <;> first
    | (obtain ⟨_, rfl⟩ := pair_inj h; trivial)
    | (obtain ⟨_, rfl⟩ := pair_inj h; simpa [pickB] using hb)
    | cases h
def binB (op : BinOp) : Value → Value → Bool
  | .int _ a, .int _ b => match op with
    | .shl => decide (0 ≤ b)
    | .shr => decide (0 ≤ b)
    | .quo => b != 0
    | .rem => b != 0
    | _ => true
  | .string x, .string y => match op with
    | .add => decide (((x.size + y.size : Nat) : Int) ≤ IntKind.i64.max)
    | _ => true
  | _, _ => true
theorem binB_ok {td : Option TD} {op : BinOp} {x y : Value} {q : Value × Prop} (h : binV td op x y = some q) (hb : binB op x y = true) : q.2 := by
  unfold binV at h
  split at h
  · cases op
    case shl => injection h with h; subst h; simpa [binB] using hb
    case shr => injection h with h; subst h; simpa [binB] using hb
    all_goals
      simp only at h
      split at h
      · cases h
      · injection h with h
        subst h
        first
          | trivial
          | (simpa [binB] using hb)
  · cases op <;> first
      | (cases h; done)
      | (injection h with h; subst h; first | trivial | (simpa [binB] using hb))
  · split at h <;> first
      | (cases h; done)
      | (injection h with h; subst h; trivial)
  · split at h <;> first
      | (cases h; done)
      | (injection h with h; subst h; trivial)
  · cases h
  · cases h
def binDB (op : BinOp) : Option D → Option D → Bool
  | some (.v x), some (.v y) => binB op x y
  | some (.ro n _), some (.v (.slice none 0 0)) => decide (0 < n)
  | some (.sl _ _ n _), some (.v (.slice none 0 0)) => decide (0 < n)
  | _, _ => false
theorem nilCmpB_ok {td : Option TD} {op : BinOp} {n : Nat} {d : D} {p : Prop} (h : nilCmp td op n = some (d, p)) (hb : decide (0 < n) = true) : p := by
  unfold nilCmp at h
  split at h
  · obtain ⟨_, rfl⟩ := pair_inj h; simpa using hb
  · obtain ⟨_, rfl⟩ := pair_inj h; simpa using hb
  · cases h
theorem binDB_ok {td : Option TD} {op : BinOp} {a b : Option D} {d : D} {p : Prop} (h : binD td op a b = some (d, p)) (hb : binDB op a b = true) : p := by
  unfold binD at h
  split at h
  · simp only [binDB] at hb
    cases hv : binV td op _ _ with
    | none => rw [hv] at h; cases h
    | some q =>
      rw [hv] at h
      have h1 : (.v q.1, q.2) = (d, p) := by simpa using h
      have := binB_ok hv hb
      injection h1 with _ h2
      rw [← h2]; exact this
  · exact nilCmpB_ok h (by simpa only [binDB] using hb)
  · exact nilCmpB_ok h (by simpa only [binDB] using hb)
  · cases h
def isIntB (k : IntKind) : D → Bool
  | .v (.int k' _) => k' == k
  | _ => false
theorem isIntB_ok {k : IntKind} {d : D} (h : isIntB k d = true) : IsInt k d := by
  unfold isIntB at h
  split at h
  · rename_i k' n
    have : k' = k := by simpa using h
    subst this; rfl
  · cases h
def isBoolB : D → Bool
  | .v (.bool _) => true
  | _ => false
theorem isBoolB_ok {d : D} (h : isBoolB d = true) : IsBool d := by
  unfold isBoolB at h
  split at h
  · rfl
  · cases h
def isStrB : D → Bool
  | .v (.string _) => true
  | _ => false
theorem isStrB_ok {d : D} (h : isStrB d = true) : IsStr d := by
  unfold isStrB at h
  split at h
  · rfl
  · cases h
def partB (ti : TI) (xs : List D) (off : Nat) : Bool :=
  match ti.td with
  | .struct _ => decide (off + ti.size ≤ xs.length)
  | .arr _ _ => decide (off + ti.size ≤ xs.length)
  | .int k => decide (off < xs.length) && isIntB k (xs.getD off default)
  | .bool => decide (off < xs.length) && isBoolB (xs.getD off default)
  | .str => decide (off < xs.length) && isStrB (xs.getD off default)
  | _ => decide (off < xs.length)
theorem partB_ok {ti : TI} {xs : List D} {off : Nat} (h : partB ti xs off = true) : (partD ti xs off).2 := by
  unfold partB at h
  unfold partD
  cases htd : ti.td <;> simp only [htd] at h ⊢
  case int k => simp only [Bool.and_eq_true, decide_eq_true_eq] at h; exact ⟨h.1, isIntB_ok h.2⟩
  case bool => simp only [Bool.and_eq_true, decide_eq_true_eq] at h; exact ⟨h.1, isBoolB_ok h.2⟩
  case str => simp only [Bool.and_eq_true, decide_eq_true_eq] at h; exact ⟨h.1, isStrB_ok h.2⟩
  all_goals simpa using h
def fieldB (F : Option (Nat × TI)) : Option D → Bool
  | some (.agg xs) => match F with
    | some (off, ti) => partB ti xs off
    | none => false
  | _ => false
theorem fieldB_ok {F : Option (Nat × TI)} {x : Option D} {d : D} {p : Prop} (h : fieldD F x = some (d, p)) (hb : fieldB F x = true) : p := by
  unfold fieldD at h
  split at h
  · split at h
    · simp only [fieldB] at hb
      have := partB_ok hb
      injection h with h
      rw [h] at this; exact this
    · cases h
  · cases h
def idxB (i : Int) (n : Nat) : Bool := decide (0 ≤ i) && decide (i < n)
theorem idxB_ok {i : Int} {n : Nat} (h : idxB i n = true) : 0 ≤ i ∧ i < n := by
  simpa [idxB] using h
def indexAddrB (t : Option TI) : Option D → Option D → Bool
  | some (.ro n xs), some (.v (.int _ i)) => idxB i n
  | some (.sl b off n _), some (.v (.int _ i)) => idxB i n
  | some (.ptr b off), some (.v (.int _ i)) => match t with
    | some ⟨.arr m e, _, _, _⟩ => idxB i m
    | _ => false
  | some (.rp xs j), some (.v (.int _ i)) => match t with
    | some ⟨.arr m e, _, _, _⟩ => idxB i m
    | _ => false
  | _, _ => false
theorem indexAddrB_ok {T : Tbl} {t : Option TI} {x y : Option D} {d : D} {p : Prop} (h : indexAddrD T t x y = some (d, p)) (hb : indexAddrB t x y = true) : p := by
  unfold indexAddrD at h
  split at h <;> first
    | (cases h; done)
    | (split at h
       · split at h
         · obtain ⟨_, rfl⟩ := pair_inj h
           exact idxB_ok (by simpa only [indexAddrB] using hb)
         · cases h
       · cases h)
def indexB (T : Tbl) (t : Option TI) : Option D → Option D → Bool
  | some (.v (.string s)), some (.v (.int _ i)) => idxB i s.size
  | some (.agg xs), some (.v (.int _ i)) => match t with
    | some ⟨.arr m e, _, _, _⟩ => match T e with
      | some ti => idxB i m && partB ti xs (i.toNat * ti.size)
      | none => false
    | _ => false
  | _, _ => false
theorem indexB_ok {T : Tbl} {t : Option TI} {x y : Option D} {d : D} {p : Prop} (h : indexD T t x y = some (d, p)) (hb : indexB T t x y = true) : p := by
  unfold indexD at h
  split at h
  · split at h
    · obtain ⟨_, rfl⟩ := pair_inj h
      exact idxB_ok (by simpa only [indexB] using hb)
    · cases h
  · split at h
    · split at h
      · rename_i ti hti
        simp only at h
        obtain ⟨_, rfl⟩ := pair_inj h
        simp only [indexB, hti, Bool.and_eq_true] at hb
        exact ⟨idxB_ok hb.1, partB_ok hb.2⟩
      · cases h
    · cases h
  · cases h
def isSlB : D → Bool
  | .ro _ _ => true
  | .v (.slice none 0 0) => true
  | _ => false
theorem isSlB_ok {d : D} (h : isSlB d = true) : IsSl d := by
  unfold isSlB at h; split at h
  · trivial
  · trivial
  · cases h
def cellsZB : List Value → List D → Nat → Bool
  | [], _, _ => true
  | .int k _ :: r, xs, off => isIntB k (xs.getD off default) && cellsZB r xs (off + 1)
  | .bool _ :: r, xs, off => isBoolB (xs.getD off default) && cellsZB r xs (off + 1)
  | .string _ :: r, xs, off => isStrB (xs.getD off default) && cellsZB r xs (off + 1)
  | .slice none 0 0 :: r, xs, off => isSlB (xs.getD off default) && cellsZB r xs (off + 1)
  | _ :: r, xs, off => cellsZB r xs (off + 1)
theorem cellsZB_ok : ∀ (z : List Value) (xs : List D) (off : Nat), cellsZB z xs off = true → cellsZC z xs off
  | [], _, _, _ => trivial
  | u :: r, xs, off, h => by
    unfold cellsZB at h
    unfold cellsZC
    split at h
    · rename_i heq; cases heq
    all_goals first
      | (rename_i heq; injection heq with h1 h2; subst h1; subst h2; simp only [Bool.and_eq_true] at h; first | exact ⟨isIntB_ok h.1, cellsZB_ok _ _ _ h.2⟩ | exact ⟨isBoolB_ok h.1, cellsZB_ok _ _ _ h.2⟩ | exact ⟨isStrB_ok h.1, cellsZB_ok _ _ _ h.2⟩ | exact ⟨isSlB_ok h.1, cellsZB_ok _ _ _ h.2⟩)
      | skip
    all_goals
      rename_i h1 h2 h3 h4 h5 h6 heq
      injection heq with g1 g2; subst g1; subst g2
      split
      all_goals first
        | trivial
        | (rename_i heq2; injection heq2 with e1 e2; first | exact (h3 _ _ e1).elim | exact (h4 _ e1).elim | exact (h5 _ e1).elim | exact (h6 e1).elim | (subst e2; exact cellsZB_ok _ _ _ h))
def partCB (ti : TI) (xs : List D) (off : Nat) : Bool :=
  match ti.td with
  | .struct _ => decide (off + ti.size ≤ xs.length) && cellsZB ti.zero xs off
  | .arr _ _ => decide (off + ti.size ≤ xs.length) && cellsZB ti.zero xs off
  | .slice _ => decide (off < xs.length) && isSlB (xs.getD off default)
  | _ => partB ti xs off
theorem partCB_ok {ti : TI} {xs : List D} {off : Nat} (h : partCB ti xs off = true) : (partC ti xs off).2 := by
  unfold partCB at h
  unfold partC
  cases htd : ti.td <;> simp only [htd] at h ⊢
  case struct => simp only [Bool.and_eq_true, decide_eq_true_eq] at h; exact ⟨h.1, cellsZB_ok _ _ _ h.2⟩
  case arr => simp only [Bool.and_eq_true, decide_eq_true_eq] at h; exact ⟨h.1, cellsZB_ok _ _ _ h.2⟩
  case slice => simp only [Bool.and_eq_true, decide_eq_true_eq] at h; exact ⟨h.1, isSlB_ok h.2⟩
  all_goals exact partB_ok h
def loadB (t : Option TI) : Option D → Bool
  | some (.rp xs j) => match t with
    | some ti => partCB ti xs j
    | none => false
  | _ => false
theorem loadB_ok {t : Option TI} {x : Option D} {d : D} {p : Prop} (h : loadP t x = some (d, p)) (hb : loadB t x = true) : p := by
  unfold loadP at h
  split at h
  · split at h
    · simp only [loadB] at hb
      have := partCB_ok hb
      injection h with h
      rw [h] at this; exact this
    · cases h
  · cases h
def sliceCB (n : Nat) (lo hi mx : Option Int) : Bool :=
  (match lo with | none => true | some i => decide (0 ≤ i) && decide (i ≤ hiN n hi)) &&
  ((match hi with | none => true | some j => decide (0 ≤ j) && decide (j ≤ hiN n mx)) &&
  (match mx with | none => true | some m => decide (0 ≤ m) && (decide (m ≤ n) && hi.isSome)))
theorem sliceCB_ok {n : Nat} {lo hi mx : Option Int} (h : sliceCB n lo hi mx = true) : sliceC n lo hi mx := by
  unfold sliceCB at h
  unfold sliceC
  simp only [Bool.and_eq_true] at h
  refine ⟨?_, ?_, ?_⟩
  · cases lo <;> simp_all
  · cases hi <;> simp_all
  · cases mx <;> simp_all
def capB (es : Nat) : Cap → Bool
  | .exact _ e => e == es
  | .toEnd e => e == es
def sliceB (T : Tbl) (t : Option TI) (lo hi mx : Option (Option Int)) : Option D → Bool
  | some (.ro n xs) => match lo, hi, mx with
    | some lo, some hi, some mx => sliceCB n lo hi mx
    | _, _, _ => false
  | some (.sl b off n c) => match t, lo, hi, mx with
    | some ⟨.slice e, _, _, _⟩, some lo, some hi, some mx => match T e with
      | some ti => sliceCB n lo hi mx && capB ti.size c
      | none => false
    | _, _, _, _ => false
  | some (.ptr b off) => match t, lo, hi, mx with
    | some ⟨.arr m e, _, _, _⟩, some lo, some hi, some none => sliceCB m lo hi none && decide (m ≤ maxLen)
    | _, _, _, _ => false
  | some (.v (.string s)) => match lo, hi with
    | some lo, some hi => sliceCB s.size lo hi none
    | _, _ => false
  | some (.v (.slice none 0 0)) => match lo, hi, mx with
    | some lo, some hi, some mx => sliceCB 0 lo hi mx
    | _, _, _ => false
  | _ => false
theorem sliceB_ok {T : Tbl} {t : Option TI} {lo hi mx : Option (Option Int)} {x : Option D} {d : D} {p : Prop} (h : sliceD T t lo hi mx x = some (d, p)) (hb : sliceB T t lo hi mx x = true) : p := by
  unfold sliceD at h
  split at h
  · split at h
    · split at h
      · obtain ⟨_, rfl⟩ := pair_inj h
        exact sliceCB_ok (by simpa only [sliceB] using hb)
      · cases h
    · cases h
  · split at h
    · split at h
      · rename_i ti hti
        obtain ⟨_, rfl⟩ := pair_inj h
        simp only [sliceB, hti, Bool.and_eq_true] at hb
        refine ⟨sliceCB_ok hb.1, ?_⟩
        have := hb.2
        unfold capB at this
        split <;> simp_all
      · cases h
    · cases h
  · split at h
    · split at h
      · obtain ⟨_, rfl⟩ := pair_inj h
        simp only [sliceB, Bool.and_eq_true, decide_eq_true_eq] at hb
        exact ⟨sliceCB_ok hb.1, hb.2⟩
      · cases h
    · cases h
  · split at h
    · obtain ⟨_, rfl⟩ := pair_inj h
      exact sliceCB_ok (by simpa only [sliceB] using hb)
    · cases h
  · split at h
    · split at h
      · obtain ⟨_, rfl⟩ := pair_inj h
        exact sliceCB_ok (by simpa only [sliceB] using hb)
      · cases h
    · cases h
  · cases h
def eqFsB (f : Option TI → D → D → Bool) (T : Tbl) (xs ys : List D) : List (Nat × TypeId) → Bool
  | [] => true
  | (off, ft) :: r => match T ft with
    | some ti => (partB ti xs off && partB ti ys off) && (f (some ti) (partD ti xs off).1 (partD ti ys off).1 && eqFsB f T xs ys r)
    | none => false
def eqDB (T : Tbl) : Nat → Option TI → D → D → Bool
  | 0, _, _, _ => false
  | n + 1, some ti, x, y => match ti.td, x, y with
    | .struct fs, .agg xs, .agg ys => eqFsB (eqDB T n) T xs ys fs
    | .arr m e, .agg xs, .agg ys => match T e with
      | some te => eqFsB (eqDB T n) T xs ys (arrFs m e te.size)
      | none => false
    | _, _, _ => true
  | _, none, _, _ => false
theorem eqFsB_ok {T : Tbl} {n : Nat} (ih : ∀ (t : Option TI) (x y : D) (b : Bool) (c : Prop), eqD T n t x y = some (b, c) → eqDB T n t x y = true → c) {xs ys : List D} :
    ∀ (fs : List (Nat × TypeId)) (b : Bool) (c : Prop), eqFs (eqD T n) T xs ys fs = some (b, c) → eqFsB (eqDB T n) T xs ys fs = true → c
  | [], b, c, h, hb => by simp only [eqFs] at h; obtain ⟨_, rfl⟩ := pair_inj h; trivial
  | (off, ft) :: r, b, c, h, hb => by
    simp only [eqFs] at h
    simp only [eqFsB] at hb
    split at h
    · rename_i ti hti
      simp only [hti, Bool.and_eq_true] at hb
      split at h
      · rename_i b1 c1 b2 c2 h1 h2
        obtain ⟨_, rfl⟩ := pair_inj h
        exact ⟨⟨partB_ok hb.1.1, partB_ok hb.1.2⟩, ih _ _ _ _ _ h1 hb.2.1, eqFsB_ok ih r _ _ h2 hb.2.2⟩
      · cases h
    · cases h
theorem eqDB_ok {T : Tbl} : ∀ (n : Nat) (t : Option TI) (x y : D) (b : Bool) (c : Prop), eqD T n t x y = some (b, c) → eqDB T n t x y = true → c
  | 0, t, x, y, b, c, h, _ => by simp [eqD] at h
  | n + 1, none, x, y, b, c, h, _ => by simp [eqD] at h
  | n + 1, some ti, x, y, b, c, h, hb => by
    simp only [eqD] at h
    split at h
    · split at h
      · obtain ⟨_, rfl⟩ := pair_inj h; trivial
      · cases h
    · obtain ⟨_, rfl⟩ := pair_inj h; trivial
    · obtain ⟨_, rfl⟩ := pair_inj h; trivial
    · rename_i htd
      simp only [eqDB, htd] at hb
      exact eqFsB_ok (fun t x y b c => eqDB_ok n t x y b c) _ _ _ h hb
    · rename_i htd
      simp only [eqDB, htd] at hb
      split at h
      · rename_i te hte
        simp only [hte] at hb
        exact eqFsB_ok (fun t x y b c => eqDB_ok n t x y b c) _ _ _ h hb
      · cases h
    · cases h
def aggEqB (T : Tbl) (t : Option TI) : Option D → Option D → Bool
  | some x, some y => eqDB T 10 t x y
  | _, _ => false
theorem aggEqB_ok {T : Tbl} {op : BinOp} {t : Option TI} {x y : Option D} {d : D} {c : Prop} (h : aggEq T op t x y = some (d, c)) (hb : aggEqB T t x y = true) : c := by
  unfold aggEq at h
  split at h
  · simp only [aggEqB] at hb
    split at h
    · rename_i he; obtain ⟨_, rfl⟩ := pair_inj h; exact eqDB_ok _ _ _ _ _ _ he hb
    · rename_i he; obtain ⟨_, rfl⟩ := pair_inj h; exact eqDB_ok _ _ _ _ _ _ he hb
    · cases h
  · cases h
def opPB (T : Tbl) (env : Env) : Op → Bool
  | .pick c a b => pickB (opnd env c) (opnd env a) (opnd env b)
  | .binOp op t x y _ => bif isAggD (opnd env x) then aggEqB T (T t) (opnd env x) (opnd env y) else binDB op (opnd env x) (opnd env y)
  | .field s x f => fieldB (fieldOf T s f) (opnd env x)
  | .indexAddr t x i => indexAddrB (T t) (opnd env x) (opnd env i)
  | .index t x i => indexB T (T t) (opnd env x) (opnd env i)
  | .load t x => loadB (T t) (opnd env x)
  | .slice t x lo hi mx => sliceB T (T t) (intO env lo) (intO env hi) (intO env mx) (opnd env x)
  | _ => true
theorem mmL_ok {m : Bool} : ∀ (ds : List D) (d e : D) (p : Prop), mmL m d ds = some (e, p) → p
  | [], d, e, p, h => by simp only [mmL] at h; obtain ⟨_, rfl⟩ := pair_inj h; trivial
  | f :: ds, d, e, p, h => by
    simp only [mmL] at h
    split at h
    · exact mmL_ok ds _ e p h
    · cases h
theorem mmA_ok {m : Bool} {o : Option (List D)} {d : D} {p : Prop} (h : mmA m o = some (d, p)) : p := by
  unfold mmA at h
  split at h
  · exact mmL_ok _ _ _ _ h
  · cases h
theorem opPB_ok {T : Tbl} {env : Env} {op : Op} {d : D} {p : Prop} (h : opP T env op = some (d, p)) (hb : opPB T env op = true) : p := by
  cases op
  case pick => exact pickB_ok h hb
  case binOp op t x y yt =>
    simp only [opP] at h
    simp only [opPB] at hb
    cases hia : isAggD (opnd env x) with
    | true => rw [hia] at h hb; exact aggEqB_ok h hb
    | false => rw [hia] at h hb; exact binDB_ok h hb
  case field => exact fieldB_ok h hb
  case indexAddr => exact indexAddrB_ok h hb
  case index => exact indexB_ok h hb
  case load => exact loadB_ok h hb
  case slice => exact sliceB_ok h hb
  case move x => simp only [opP] at h; cases hx : opnd env x <;> simp_all
  case assign x => simp only [opP] at h; cases hx : opnd env x <;> simp_all
  case unOp op t x =>
    simp only [opP, unD] at h
    split at h
    · rename_i y _
      cases hv : unV op y <;> simp_all
    · cases h
  case convert s t x =>
    simp only [opP, convD] at h
    split at h
    · rename_i y _
      cases hv : convV ((T s).map (·.td)) ((T t).map (·.td)) y <;> simp_all
    · cases h
  case fieldAddr s x f =>
    simp only [opP, fieldAddrD] at h
    split at h
    · split at h
      · split at h
        · cases h
        · obtain ⟨_, rfl⟩ := pair_inj h; trivial
      · cases h
    · split at h
      · split at h
        · cases h
        · obtain ⟨_, rfl⟩ := pair_inj h; trivial
      · cases h
    · cases h
  case extract x i =>
    simp only [opP, extractD] at h
    split at h
    · split at h
      · obtain ⟨_, rfl⟩ := pair_inj h; trivial
      · cases h
    · cases h
  case build t parts =>
    simp only [opP, buildD] at h
    split at h
    · split at h
      · rename_i fs _ _ zero _ _
        cases hv : fillD (placeD T fs) env (zero.map .v) parts.toList <;> simp_all
      · cases h
    · split at h
      · simp only [Option.map_eq_some_iff] at h
        obtain ⟨a, _, h⟩ := h
        obtain ⟨_, rfl⟩ := pair_inj (congrArg some h)
        trivial
      · cases h
    · cases h
  case makeInterface t x =>
    simp only [opP, ifcD] at h
    split at h
    · split at h
      · split at h
        · cases h
        · obtain ⟨_, rfl⟩ := pair_inj h; trivial
      · cases h
    · cases h
  case makeFunc fn first caps =>
    simp only [opP, funcD] at h
    split at h
    · cases hv : getAll env (first.toList ++ caps.toList) <;> simp_all
    · cases h
  case nilCheck x =>
    simp only [opP, nilCheckD] at h
    split at h
    · obtain ⟨_, rfl⟩ := pair_inj h; trivial
    · obtain ⟨_, rfl⟩ := pair_inj h; trivial
    · cases h
  case call c =>
    obtain ⟨callee, args, ts⟩ := c
    cases callee with
    | value f => simp [opP] at h
    | invoke r m => simp [opP] at h
    | builtin b =>
      simp only [opP, callB] at h
      split at h
      · unfold lenD at h
        repeat (split at h <;> first | (cases h; done) | (obtain ⟨_, rfl⟩ := pair_inj h; trivial) | skip)
      · unfold capV at h
        repeat (split at h <;> first | (cases h; done) | (obtain ⟨_, rfl⟩ := pair_inj h; trivial) | skip)
      · unfold mm2 at h
        repeat (split at h <;> first | (cases h; done) | (obtain ⟨_, rfl⟩ := pair_inj h; trivial) | skip)
      · unfold mm2 at h
        repeat (split at h <;> first | (cases h; done) | (obtain ⟨_, rfl⟩ := pair_inj h; trivial) | skip)
      · exact mmA_ok h
      · exact mmA_ok h
      · cases h
  all_goals (simp [opP] at h)
end Go.VD
end
section
namespace Go.VD
set_option linter.unusedVariables false
set_option linter.unusedSimpArgs false
def srcB (H : Heap) (es : Nat) : Option D → Bool
  | some (.ro m ys) => decide (m * es ≤ ys.length)
  | some (.sl b off m _) => match blkAt H b with
    | some blk => decide (off + m * es ≤ blk.cs.length)
    | none => false
  | _ => true
theorem srcB_ok {H : Heap} {es : Nat} {x : Option D} {m : Nat} {news : List D} {c : Prop} (h : srcD H es x = some (m, news, c)) (hb : srcB H es x = true) : c := by
  unfold srcD at h
  split at h
  · injection h with h; injection h with _ h; injection h with _ h; subst h; simpa [srcB] using hb
  · split at h
    · rename_i blk hblk
      injection h with h; injection h with _ h; injection h with _ h; subst h; simpa [srcB, hblk] using hb
    · cases h
  · injection h with h; injection h with _ h; injection h with _ h; subst h; trivial
  · cases h
def loadHB (H : Heap) (t : Option TI) : Option D → Bool
  | some (.ptr b off) => match blkAt H b, t with
    | some blk, some ti => partB ti blk.cs off
    | _, _ => false
  | _ => false
def storeHB (H : Heap) (t : Option TI) (ys : Option (List D)) : Option D → Bool
  | some (.ptr b off) => match blkAt H b, t, ys with
    | some blk, some ti, some ys => decide (ys.length = ti.size) && decide (off + ti.size ≤ blk.cs.length)
    | _, _, _ => false
  | _ => false
def makeHB (T : Tbl) (t : Option TI) : Option D → Option D → Bool
  | some (.v (.int _ n)), some (.v (.int _ m)) => match t with
    | some ⟨.slice e, _, _, _⟩ => match T e with
      | some ti => decide (0 ≤ n) && (decide (n ≤ m) && (decide ((ti.bytes : Int) * m ≤ 281474976710656) && decide (m ≤ 9223372036854775807)))
      | none => false
    | _ => false
  | _, _ => false
def buildSliceHB (T : Tbl) (t : Option TI) (len : Nat) : Bool :=
  match t with
  | some ⟨.slice e, _, _, _⟩ => match T e with
    | some ti => decide (len * ti.size ≤ 16777216) && decide (len ≤ maxLen)
    | none => false
  | _ => false
def appendHB (T : Tbl) (H : Heap) (t t' : Option TypeId) (ti : Option TI) (src : Option D) : Option D → Bool
  | some (.sl b 0 n (.toEnd es)) => match t, t', ti with
    | some t, some t', some ⟨.slice e, _, _, _⟩ => match T e, blkAt H b with
      | some te, some blk => match srcD H te.size src with
        | some (m, _, _) => srcB H te.size src && (t == t' && (es == te.size && (blk.ty == e && (decide (n * te.size ≤ blk.cs.length) && (decide (0 < te.size) && (decide (n + m ≤ maxLen) && decide ((n + m) * te.bytes ≤ 140737488355328)))))))
        | none => false
      | _, _ => false
    | _, _, _ => false
  | some (.v (.slice none 0 0)) => match t, t', ti with
    | some t, some t', some ⟨.slice e, _, _, _⟩ => match T e with
      | some te => match srcD H te.size src with
        | some (m, _, _) => srcB H te.size src && (t == t' && (decide (0 < te.size) && (decide (m ≤ maxLen) && decide (m * te.bytes ≤ 140737488355328))))
        | none => false
      | none => false
    | _, _, _ => false
  | _ => false
theorem appendHB_ok {T : Tbl} {H : Heap} {t t' : Option TypeId} {ti : Option TI} {src s : Option D} {out : HOut} (h : appendH T H t t' ti src s = some out) (hb : appendHB T H t t' ti src s = true) : out.c := by
  unfold appendH at h
  split at h
  · split at h
    · split at h
      · rename_i h4 h5
        split at h
        · rename_i h6
          injection h with h; subst h
          simp only [appendHB, h4, h5, h6, Bool.and_eq_true, decide_eq_true_eq, beq_iff_eq] at hb
          exact ⟨srcB_ok h6 hb.1, hb.2⟩
        · rename_i h6
          simp only [appendHB, h4, h5, h6] at hb
          cases hb
      · cases h
    · cases h
  · split at h
    · split at h
      · rename_i h4
        split at h
        · rename_i h6
          injection h with h; subst h
          simp only [appendHB, h4, h6, Bool.and_eq_true, decide_eq_true_eq, beq_iff_eq] at hb
          exact ⟨srcB_ok h6 hb.1, hb.2⟩
        · cases h
      · cases h
    · cases h
  · cases h
def opHB (T : Tbl) (env : Env) (H : Heap) : Op → Bool
  | .convert s d x => match srcD H 1 (opnd env x) with
    | some (_, news, _) => srcB H 1 (opnd env x) && news.all (isIntB .u8)
    | none => false
  | .load t x => loadHB H (T t) (opnd env x)
  | .store t x y => storeHB H (T t) ((opnd env y).bind cellsD) (opnd env x)
  | .makeSlice t l c => makeHB T (T t) (opnd env l) (opnd env c)
  | .buildSlice t len parts => buildSliceHB T (T t) len
  | .call { callee := .builtin .append, args, argTypes } => match args.toList with
    | [s, x] => appendHB T H argTypes.toList[0]? argTypes.toList[1]? (argTypes.toList[0]?.bind T) (opnd env x) (opnd env s)
    | _ => false
  | _ => true
theorem opHB_ok {T : Tbl} {env : Env} {H : Heap} {op : Op} {out : HOut} (h : opH T env H op = some out) (hb : opHB T env H op = true) : out.c := by
  cases op
  case convert s d x =>
    simp only [opH, bytesH] at h
    split at h
    · split at h
      · split at h
        · rename_i hsrc
          injection h with h; subst h
          simp only [opHB, hsrc, Bool.and_eq_true, List.all_eq_true] at hb
          exact ⟨srcB_ok hsrc hb.1, fun d hd => isIntB_ok (hb.2 d hd)⟩
        · cases h
      · cases h
    · cases h
  case range t x =>
    simp only [opH, rangeH] at h
    split at h
    · split at h
      · injection h with h; subst h; trivial
      · cases h
    · cases h
  case next it isString =>
    cases isString with
    | false => simp [opH] at h
    | true =>
      simp only [opH, nextH] at h
      split at h
      · split at h
        · injection h with h; subst h; trivial
        · cases h
      · cases h
  case box elem x =>
    simp only [opH, boxH] at h; split at h
    · cases hbe : Nat.beq elem itTy with
      | true => rw [hbe] at h; cases h
      | false => rw [hbe] at h; injection h with h; subst h; trivial
    · cases h
  case alloc elem => simp only [opH] at h; split at h <;> first | (injection h with h; subst h; trivial) | cases h
  case load t x =>
    simp only [opH, loadH] at h; split at h
    · rename_i hx
      split at h
      · rename_i hblk ht
        injection h with h; subst h
        simp only [opHB, loadHB, hx, hblk, ht] at hb
        exact partB_ok hb
      · cases h
    · cases h
  case store t x y =>
    simp only [opH, storeH] at h; split at h
    · rename_i hx
      split at h
      · rename_i hblk ht hy
        injection h with h; subst h
        simp only [opHB, storeHB, hx, hblk, ht, hy, Bool.and_eq_true, decide_eq_true_eq] at hb
        exact hb
      · cases h
    · cases h
  case makeSlice t l c =>
    simp only [opH, makeH] at h; split at h
    · rename_i hl hc
      split at h
      · rename_i ht
        split at h
        · rename_i hte
          injection h with h; subst h
          simp only [opHB, makeHB, hl, hc, ht, hte, Bool.and_eq_true, decide_eq_true_eq] at hb
          exact hb
        · cases h
      · cases h
    · cases h
  case buildSlice t len parts =>
    simp only [opH, buildSliceH] at h; split at h
    · rename_i ht
      split at h
      · rename_i hte
        split at h
        · injection h with h; subst h
          simp only [opHB, buildSliceHB, ht, hte, Bool.and_eq_true, decide_eq_true_eq] at hb
          exact hb
        · cases h
      · cases h
    · cases h
  case call c =>
    obtain ⟨callee, args, ts⟩ := c
    cases callee with
    | value f => simp [opH] at h
    | invoke r m => simp [opH] at h
    | builtin b =>
      cases b
      case append =>
        simp only [opH] at h
        split at h
        · rename_i s x hargs
          simp only [opHB, hargs] at hb
          exact appendHB_ok h hb
        · cases h
      all_goals (simp [opH] at h)
  all_goals (simp [opH] at h)
end Go.VD
end
section
namespace Go.VD
set_option linter.unusedVariables false
set_option linter.unusedSimpArgs false
mutual
def shD (k : Nat) : D → D
  | .v x => .v x
  | .ro n xs => .ro n xs
  | .rp xs j => .rp xs j
  | .sl b off n c => .sl (b + k) off n c
  | .ptr b off => .ptr (b + k) off
  | .agg xs => .agg (shL k xs)
  | .tup xs => .tup (shL k xs)
  | .ifc t d => .ifc t (shD k d)
  | .fn f j caps => .fn f j (shL k caps)
def shL (k : Nat) : List D → List D
  | [] => []
  | d :: ds => shD k d :: shL k ds
end
theorem shL_length (k : Nat) : ∀ ds, (shL k ds).length = ds.length
  | [] => rfl
  | d :: ds => by simp [shL, shL_length k ds]
def shB (k : Nat) (b : Blk) : Blk := ⟨b.ty, shL k b.cs, b.full⟩
theorem Row.sh {k : Nat} {o : Option Obj} {blk : Blk} {cur : Array Value} (h : Row o blk cur) : Row o (shB k blk) cur := by
  rcases h with h | ⟨s, n, rfl, h2, h3, h4⟩
  · exact .inl h
  · exact .inr ⟨s, n, by simp [shB, shL, shD], h2, h3, h4⟩
def shO (k : Nat) : Option Blk → Option Blk
  | some b => some (shB k b)
  | none => none
def shH (k : Nat) (H : Heap) : Heap := H.map (shO k)
section
variable {ρ ρ' : Nat → Nat × Nat} {S S' : Nat → Prop} {w : World} {H H' : Heap} {k : Nat}
mutual
theorem Rd.shift (hS : ∀ x, S x → S' x) (hb : ∀ b, b < H.length → b + k < H'.length ∧ ρ' (b + k) = ρ b) : ∀ (d : D) (u : Value), Rd (ctx ρ S w H) d u → Rd (ctx ρ' S' w H') (shD k d) u
  | .v x, u, hr => by simpa only [Rd, shD] using hr
  | .ro n xs, u, hr => by
    have hn : NamelessL xs := by simp only [Rd] at hr; exact hr.1
    simp only [shD]; exact Rd.moveS hS (by simpa [Nameless] using hn) hr
  | .rp xs j, u, hr => by
    have hn : NamelessL xs := by simp only [Rd] at hr; exact hr.1
    simp only [shD]; exact Rd.moveS hS (by simpa [Nameless] using hn) hr
  | .sl b off n (.exact c _), u, hr => by
    simp only [Rd, shD] at hr ⊢
    obtain ⟨h0, h1, h2, A, h3, h4⟩ := hr
    exact ⟨(hb b h0).1, h1, h2, A, h3, by rw [(hb b h0).2]; exact h4⟩
  | .sl b off n (.toEnd es), u, hr => by
    simp only [Rd, shD] at hr ⊢
    obtain ⟨h0, A, c, h3, h1, h2, h4, h5⟩ := hr
    exact ⟨(hb b h0).1, A, c, h3, h1, h2, by rw [(hb b h0).2]; exact h4, by rw [(hb b h0).2]; exact h5⟩
  | .ptr b off, u, hr => by
    simp only [Rd, shD] at hr ⊢
    exact ⟨(hb b hr.1).1, by rw [(hb b hr.1).2]; exact hr.2⟩
  | .agg xs, u, hr => by
    simp only [Rd, shD] at hr ⊢
    obtain ⟨us, hu, hr⟩ := hr
    exact ⟨us, hu, RdL.shift hS hb xs us.toList hr⟩
  | .tup xs, u, hr => by
    simp only [Rd, shD] at hr ⊢
    obtain ⟨us, hu, hr⟩ := hr
    exact ⟨us, hu, RdT.shift hS hb xs us.toList hr⟩
  | .ifc t d, u, hr => by
    simp only [Rd, shD] at hr ⊢
    obtain ⟨x, hu, hr⟩ := hr
    exact ⟨x, hu, Rd.shift hS hb d x hr⟩
  | .fn f j caps, u, hr => by
    simp only [Rd, shD] at hr ⊢
    obtain ⟨fs, us, hu, hj, hr⟩ := hr
    exact ⟨fs, us, hu, hj, RdT.shift hS hb caps _ hr⟩
theorem RdL.shift (hS : ∀ x, S x → S' x) (hb : ∀ b, b < H.length → b + k < H'.length ∧ ρ' (b + k) = ρ b) : ∀ (ds : List D) (us : List Value), RdL (ctx ρ S w H) ds us → RdL (ctx ρ' S' w H') (shL k ds) us
  | [], us, hr => by simpa only [RdL, shL] using hr
  | d :: ds, us, hr => by
    simp only [RdL, shL] at hr ⊢
    obtain ⟨u, r, hu, ho, hd, hr⟩ := hr
    exact ⟨u, r, hu, ho, Rd.shift hS hb d u hd, RdL.shift hS hb ds r hr⟩
theorem RdT.shift (hS : ∀ x, S x → S' x) (hb : ∀ b, b < H.length → b + k < H'.length ∧ ρ' (b + k) = ρ b) : ∀ (ds : List D) (us : List Value), RdT (ctx ρ S w H) ds us → RdT (ctx ρ' S' w H') (shL k ds) us
  | [], us, hr => by simpa only [RdT, shL] using hr
  | d :: ds, us, hr => by
    simp only [RdT, shL] at hr ⊢
    obtain ⟨u, r, hu, hd, hr⟩ := hr
    exact ⟨u, r, hu, Rd.shift hS hb d u hd, RdT.shift hS hb ds r hr⟩
end
end
theorem shH_get {k : Nat} {H : Heap} {b : Nat} {blk : Blk} (h : (shH k H)[b]? = some (some blk)) : ∃ blk0, H[b]? = some (some blk0) ∧ blk = shB k blk0 := by
  simp only [shH, List.getElem?_map] at h
  cases hb : H[b]? with
  | none => simp [hb] at h
  | some o =>
    simp only [hb, Option.map_some, Option.some.injEq] at h
    cases o with
    | none => simp [shO] at h
    | some blk0 => exact ⟨blk0, rfl, by simpa [shO] using h.symm⟩
theorem CallJ.frame {P : Program} {f : FuncId} {ds : List D} {d : D} {H1 : Heap} (h : CallJ P f ds [] d H1) (hn : NamelessL ds) (H : Heap) : CallJ P f ds H (shD H.length d) (H ++ shH H.length H1) := by
  refine ⟨h.1, fun ρ S w vals hS hv => ?_⟩
  have hsub : ∀ k, S k → k < w.heap.size := fun k hk => (hS.sub k hk).1
  refine (h.2 ρ S w vals (St.nil _ hsub hS.glob) (RdT.move hn hv)).mono fun e w' ⟨v, ρ1, S1, he, hS1, hle, hd⟩ => ?_
  have nl : ∀ k, ¬ Live ρ [] k := fun k ⟨b, blk, hb, _⟩ => by simp at hb
  have new : ∀ k, Live ρ1 H1 k → w.heap.size ≤ k := fun k hk => by
    rcases Nat.lt_or_ge k w.heap.size with h | h
    · exact absurd hk (hle.fix k ⟨h, nl k⟩).2
    · exact h
  let ρ2 : Nat → Nat × Nat := fun b => if b < H.length then ρ b else ρ1 (b - H.length)
  have e1 : ∀ b, b < H.length → ρ2 b = ρ b := fun b hb => if_pos hb
  have e2 : ∀ b, ρ2 (b + H.length) = ρ1 b := fun b => by
    show (if _ then _ else _) = _
    rw [if_neg (by omega)]; congr 1; omega
  have split : ∀ b blk, (H ++ shH H.length H1)[b]? = some (some blk) → (b < H.length ∧ H[b]? = some (some blk)) ∨ (∃ c blk0, b = c + H.length ∧ H1[c]? = some (some blk0) ∧ blk = shB H.length blk0) := by
    intro b blk hb
    rcases Nat.lt_or_ge b H.length with hlt | hge
    · rw [List.getElem?_append_left hlt] at hb; exact .inl ⟨hlt, hb⟩
    · rw [List.getElem?_append_right hge] at hb
      obtain ⟨blk0, h1, h2⟩ := shH_get hb
      exact .inr ⟨b - H.length, blk0, by omega, h1, h2⟩
  have live : ∀ k, Live ρ2 (H ++ shH H.length H1) k → Live ρ H k ∨ Live ρ1 H1 k := by
    rintro k ⟨b, blk, hb, hz, hk⟩
    rcases split b blk hb with ⟨h1, h2⟩ | ⟨c, blk0, rfl, h2, h3⟩
    · rw [e1 b h1] at hz hk; exact .inl ⟨b, blk, h2, hz, hk⟩
    · rw [e2] at hz hk; exact .inr ⟨c, blk0, h2, hz, hk⟩
  have hlen : (H ++ shH H.length H1).length = H.length + H1.length := by simp [shH]
  have hle2 : (ctx ρ S w H).le (ctx ρ2 S1 w' (H ++ shH H.length H1)) :=
    ⟨by simp [shH], e1, hle.S, hle.keep, fun k hk => by
      rcases hle.new k hk with h | h | h
      · exact .inl h
      · exact absurd h (nl k)
      · exact .inr (.inr h),
    fun k hk => ⟨Nat.lt_of_lt_of_le hk.1 hle.size, fun hl => by
      rcases live k hl with h | h
      · exact hk.2 h
      · have := new k h; have := hk.1; simp only [ctx] at *; omega⟩,
    fun k hk => hle.heap k ⟨hk.1, nl k⟩, hle.size, hle.os, hle.tape, hle.output⟩
  have hsh : ∀ b, b < H1.length → b + H.length < (H ++ shH H.length H1).length ∧ ρ2 (b + H.length) = ρ1 b := fun b hb => ⟨by rw [hlen]; omega, e2 b⟩
  refine ⟨v, ρ2, S1, he, ⟨fun k hk => ⟨(hS1.sub k hk).1, fun hl => ?_⟩, ?_, ?_, ?_, hS1.glob⟩, hle2, Rd.shift (fun _ h => h) hsh d v hd⟩
  · rcases live k hl with h | h
    · rcases hle.new k hk with h2 | h2 | h2
      · exact (hS.sub k h2).2 h
      · exact nl k h2
      · have := hS.lt h; simp only [ctx] at *; omega
    · exact (hS1.sub k hk).2 h
  · intro b blk hb hz
    rcases split b blk hb with ⟨h1, h2⟩ | ⟨c, blk0, rfl, h2, rfl⟩
    · rw [e1 b h1] at hz; exact hS.none b blk h2 hz
    · rw [e2] at hz
      have := hS1.none c blk0 h2 hz
      simp [shB, this, shL]
  · intro b blk hb hz
    rcases split b blk hb with ⟨h1, h2⟩ | ⟨c, blk0, rfl, h2, rfl⟩
    · rw [e1 b h1] at hz ⊢
      obtain ⟨cur, hc⟩ := hS.blk b blk h2 hz
      exact ⟨cur, hc.heap.of (hle.heap _ ⟨hc.lt, nl _⟩), hc.size, hc.pre.mono hle2 _ _, hc.full⟩
    · rw [e2] at hz ⊢
      obtain ⟨cur, hc⟩ := hS1.blk c blk0 h2 hz
      refine ⟨cur, hc.heap.sh, hc.size, ?_, fun hf => ?_⟩
      · have := RdL.shift (S' := S1) (fun _ h => h) hsh blk0.cs _ hc.pre
        simpa [shB, shL_length] using this
      · have := hc.full (by simpa [shB] using hf)
        simpa [shB, shL_length] using this
  · intro b b' blk blk' hb hb' hz hz' hk
    rcases split b blk hb with ⟨h1, h2⟩ | ⟨c, blk0, rfl, h2, rfl⟩ <;> rcases split b' blk' hb' with ⟨h1', h2'⟩ | ⟨c', blk0', rfl, h2', rfl⟩
    · rw [e1 b h1] at hz hk; rw [e1 b' h1'] at hz' hk
      exact hS.inj b b' blk blk' h2 h2' hz hz' hk
    · rw [e1 b h1] at hz hk; rw [e2] at hz' hk
      have := new _ ⟨c', blk0', h2', hz', rfl⟩
      have := hS.lt ⟨b, blk, h2, hz, rfl⟩
      omega
    · rw [e2] at hz hk; rw [e1 b' h1'] at hz' hk
      have := new _ ⟨c, blk0, h2, hz, rfl⟩
      have := hS.lt ⟨b', blk', h2', hz', rfl⟩
      omega
    · rw [e2] at hz hk; rw [e2] at hz' hk
      have := hS1.inj c c' blk0 blk0' h2 h2' hz hz' hk
      omega
mutual
def namelessB : D → Bool
  | .v _ => true
  | .ro _ xs => namelessLB xs
  | .rp xs _ => namelessLB xs
  | .sl .. => false
  | .ptr .. => false
  | .agg xs => namelessLB xs
  | .tup xs => namelessLB xs
  | .ifc _ d => namelessB d
  | .fn _ _ caps => namelessLB caps
def namelessLB : List D → Bool
  | [] => true
  | d :: ds => namelessB d && namelessLB ds
end
mutual
theorem namelessB_ok : ∀ d : D, namelessB d = true → Nameless d
  | .v _, h => trivial
  | .ro _ xs, h => by simp only [namelessB] at h; simp only [Nameless]; exact namelessLB_ok xs h
  | .rp xs _, h => by simp only [namelessB] at h; simp only [Nameless]; exact namelessLB_ok xs h
  | .sl .., h => by simp [namelessB] at h
  | .ptr .., h => by simp [namelessB] at h
  | .agg xs, h => by simp only [namelessB] at h; simp only [Nameless]; exact namelessLB_ok xs h
  | .tup xs, h => by simp only [namelessB] at h; simp only [Nameless]; exact namelessLB_ok xs h
  | .ifc _ d, h => by simp only [namelessB] at h; simp only [Nameless]; exact namelessB_ok d h
  | .fn _ _ caps, h => by simp only [namelessB] at h; simp only [Nameless]; exact namelessLB_ok caps h
theorem namelessLB_ok : ∀ ds : List D, namelessLB ds = true → NamelessL ds
  | [], h => trivial
  | d :: ds, h => by simp only [namelessLB, Bool.and_eq_true] at h; simp only [NamelessL]; exact ⟨namelessB_ok d h.1, namelessLB_ok ds h.2⟩
end
theorem sealL_length {H : Heap} : ∀ {ds es : List D} {c : Prop}, sealL H ds = some (es, c) → es.length = ds.length
  | [], es, c, h => by simp only [sealL] at h; obtain ⟨rfl, _⟩ := pair_inj h; rfl
  | d :: ds, es, c, h => by
    simp only [sealL] at h
    split at h
    · rename_i h1 h2
      obtain ⟨rfl, _⟩ := pair_inj h
      simp [sealL_length h2]
    · cases h
def scalarL : List D → Bool
  | [] => true
  | .v _ :: r => scalarL r
  | _ => false
def scalarB : D → Bool
  | .v _ => true
  | .tup xs => scalarL xs
  | _ => false
theorem scalarL_rd {E E' : Ctx} : ∀ (ds : List D) (us : List Value), scalarL ds = true → RdT E ds us → RdT E' ds us
  | [], us, _, h => by simpa only [RdT] using h
  | .v x :: r, us, hs, h => by
    simp only [scalarL] at hs
    simp only [RdT, Rd] at h ⊢
    obtain ⟨u, q, e, hu, h⟩ := h
    exact ⟨u, q, e, hu, scalarL_rd r q hs h⟩
  | .ro .. :: _, _, hs, _ => by simp [scalarL] at hs
  | .rp .. :: _, _, hs, _ => by simp [scalarL] at hs
  | .sl .. :: _, _, hs, _ => by simp [scalarL] at hs
  | .ptr .. :: _, _, hs, _ => by simp [scalarL] at hs
  | .agg .. :: _, _, hs, _ => by simp [scalarL] at hs
  | .tup .. :: _, _, hs, _ => by simp [scalarL] at hs
  | .ifc .. :: _, _, hs, _ => by simp [scalarL] at hs
  | .fn .. :: _, _, hs, _ => by simp [scalarL] at hs
theorem scalarB_rd {E E' : Ctx} {d : D} {u : Value} (hs : scalarB d = true) (h : Rd E d u) : Rd E' d u := by
  cases d <;> simp only [scalarB] at hs <;> first | (cases hs; done) | skip
  case v x => simpa only [Rd] using h
  case tup xs =>
    simp only [Rd] at h ⊢
    obtain ⟨us, hu, h⟩ := h
    exact ⟨us, hu, scalarL_rd xs us.toList hs h⟩
theorem scalarL_nameless : ∀ {ds : List D}, scalarL ds = true → NamelessL ds
  | [], _ => trivial
  | .v _ :: r, h => by simp only [scalarL] at h; simp only [NamelessL, Nameless]; exact ⟨trivial, scalarL_nameless h⟩
  | .ro .. :: _, hs => by simp [scalarL] at hs
  | .rp .. :: _, hs => by simp [scalarL] at hs
  | .sl .. :: _, hs => by simp [scalarL] at hs
  | .ptr .. :: _, hs => by simp [scalarL] at hs
  | .agg .. :: _, hs => by simp [scalarL] at hs
  | .tup .. :: _, hs => by simp [scalarL] at hs
  | .ifc .. :: _, hs => by simp [scalarL] at hs
  | .fn .. :: _, hs => by simp [scalarL] at hs
theorem scalarB_nameless {d : D} (hs : scalarB d = true) : Nameless d := by
  cases d <;> simp only [scalarB] at hs <;> first | (cases hs; done) | skip
  case v x => trivial
  case tup xs => simp only [Nameless]; exact scalarL_nameless hs
theorem PureJ.borrow {P : Program} {f : FuncId} {ds ds' : List D} {d : D} {H : Heap} {c : Prop} (h : PureJ P f ds' d) (hs : sealL H ds = some (ds', c)) (hc : c) (hd : scalarB d = true) : CallJ P f ds H d H := by
  refine ⟨h.callable, fun ρ S w vals hS hv => ?_⟩
  have hsub : ∀ k, (S k ∨ Live ρ H k) → k < w.heap.size := fun k hk => by
    rcases hk with h | h
    · exact (hS.sub k h).1
    · exact hS.lt h
  have h1 : RdT (ctx ρ (fun k => S k ∨ Live ρ H k) w []) ds' vals :=
    sealT_rd (S' := fun k => S k ∨ Live ρ H k) (H' := []) hS (fun k h => .inl h) (fun b blk hb hz => .inr ⟨b, blk, hb, hz, rfl⟩) ds ds' c vals hs hc hv
  refine (h.call (fun k => S k ∨ Live ρ H k) w vals hsub (hS.glob.mono (fun _ h => .inl h) fun _ _ => rfl) (RdT.move h.args h1)).mono fun e w' ⟨v, S', he, hg, _, _, _, hr⟩ => ?_
  exact ⟨v, ρ, S, he, hS.grow hg, hg.le (fun k hk => (hS.sub k hk).1), scalarB_rd hd hr⟩
def dropN (H : Heap) : List Nat → Heap
  | [] => H
  | b :: r => dropN (H.set b none) r
theorem dropN_drops : ∀ (l : List Nat) (H : Heap), Drops H (dropN H l)
  | [], H => Drops.refl H
  | b :: r, H => (Drops.set H b).trans (dropN_drops r _)
theorem dropN_gone : ∀ (l : List Nat) (H : Heap) (b : Nat), b ∈ l → ∀ blk, ¬ (dropN H l)[b]? = some (some blk)
  | [], H, b, h, _ => by simp at h
  | c :: r, H, b, h, blk => by
    intro hb
    have hd := (dropN_drops r (H.set c none)).2 b blk hb
    rcases List.mem_cons.1 h with rfl | h
    · rw [List.getElem?_set] at hd
      split at hd <;> simp_all
    · exact dropN_gone r (H.set c none) b h blk hb
theorem PureJ.hand {P : Program} {f : FuncId} {ds ds' : List D} {d : D} {H : Heap} {c : Prop} (h : PureJ P f ds' d) (hs : sealL H ds = some (ds', c)) (hc : c) : CallJ P f ds H d (dropN H (namesD.namesA ds)) := by
  refine ⟨h.callable, fun ρ S w vals hS hv => ?_⟩
  let S0 : Nat → Prop := fun k => S k ∨ ∃ b blk, b ∈ namesD.namesA ds ∧ H[b]? = some (some blk) ∧ 0 < (ρ b).2 ∧ (ρ b).1 = k
  have hD := dropN_drops (namesD.namesA ds) H
  have hsub : ∀ k, S0 k → k < w.heap.size := fun k hk => by
    rcases hk with h | ⟨b, blk, _, h2, h3, h4⟩
    · exact (hS.sub k h).1
    · exact hS.lt ⟨b, blk, h2, h3, h4⟩
  have h1 : RdT (ctx ρ S0 w []) ds' vals :=
    sealT_rdN (N := fun b => b ∈ namesD.namesA ds) (S' := S0) (H' := []) hS (fun k h => .inl h) (fun b blk hn hb hz => .inr ⟨b, blk, hn, hb, hz, rfl⟩) ds ds' c vals (fun b hb => hb) hs hc hv
  have hfix0 : ∀ k, S0 k → Fix (ctx ρ S0 w (dropN H (namesD.namesA ds))) k := fun k hk => ⟨hsub k hk, fun ⟨b, blk, hb, hz, e⟩ => by
    have hb0 := hD.2 b blk hb
    rcases hk with hk | ⟨b', blk', hn, hb', hz', e'⟩
    · exact (hS.sub k hk).2 ⟨b, blk, hb0, hz, e⟩
    · have := hS.inj b b' _ _ hb0 hb' hz hz' (e.trans e'.symm)
      subst this
      exact dropN_gone _ H b hn blk hb⟩
  refine (h.call S0 w vals hsub (hS.glob.mono (fun _ h => .inl h) fun _ _ => rfl) (RdT.move h.args h1)).mono fun e w' ⟨v, S', he, hg, g1, g2, g3, g4⟩ => ?_
  have hSd := hS.drops hD
  have hfix : ∀ k, S' k → Fix (ctx ρ S' w' (dropN H (namesD.namesA ds))) k := fun k hk => ⟨g3 k hk, fun hl => by
    rcases g2 k hk with h | h
    · exact (hfix0 k h).2 hl
    · have := hSd.lt hl; omega⟩
  have hle : (ctx ρ S w H).le (ctx ρ S' w' (dropN H (namesD.namesA ds))) :=
    ⟨Nat.le_of_eq hD.1.symm, fun _ _ => rfl, fun k hk => g1 k (.inl hk), fun k hk => hg.heap k (hS.sub k hk).1, fun k hk => by
      rcases g2 k hk with (h | ⟨b, blk, _, h2, h3, h4⟩) | h
      · exact .inl h
      · exact .inr (.inl ⟨b, blk, h2, h3, h4⟩)
      · exact .inr (.inr h),
     fun k hk => ⟨Nat.lt_of_lt_of_le hk.1 hg.size, fun ⟨b, blk, hb, hz, e⟩ => hk.2 ⟨b, blk, hD.2 b blk hb, hz, e⟩⟩, fun k hk => hg.heap k hk.1, hg.size, hg.os, hg.tape, hg.output⟩
  refine ⟨v, ρ, S', he, ⟨hfix, fun b blk hb hz => hS.none b blk (hD.2 b blk hb) hz, fun b blk hb hz => ?_, fun b b' blk blk' hb hb' hz hz' e => hS.inj b b' _ _ (hD.2 _ _ hb) (hD.2 _ _ hb') hz hz' e, hS.glob.mono (fun _ h => g1 _ (.inl h)) hle.keep⟩, hle, Rd.move h.res g4⟩
  obtain ⟨cur, hcur⟩ := hS.blk b blk (hD.2 b blk hb) hz
  exact ⟨cur, hcur.heap.of (hg.heap _ hcur.lt), hcur.size, hcur.pre.mono hle _ _, hcur.full⟩
mutual
def sealDB (H : Heap) : D → Bool
  | .sl b off n c => match blkAt H b with
    | some blk => match c with
      | .exact _ es => namelessLB blk.cs && (decide (0 < es) && decide (off + n * es ≤ blk.cs.length))
      | .toEnd es => namelessLB blk.cs && (decide (0 < es) && decide (off + n * es ≤ blk.cs.length))
    | none => false
  | .ptr b off => match blkAt H b with
    | some blk => namelessLB blk.cs && decide (0 < blk.cs.length)
    | none => false
  | .agg xs => sealLB H xs
  | .tup xs => sealLB H xs
  | .ifc _ d => sealDB H d
  | .fn _ _ caps => sealLB H caps
  | _ => true
def sealLB (H : Heap) : List D → Bool
  | [] => true
  | d :: ds => sealDB H d && sealLB H ds
end
mutual
theorem sealDB_ok {H : Heap} : ∀ (d e : D) (c : Prop), sealD H d = some (e, c) → sealDB H d = true → c
  | .v x, e, c, h, hb => by simp only [sealD] at h; obtain ⟨_, rfl⟩ := pair_inj h; trivial
  | .ro n xs, e, c, h, hb => by simp only [sealD] at h; obtain ⟨_, rfl⟩ := pair_inj h; trivial
  | .rp xs j, e, c, h, hb => by simp only [sealD] at h; obtain ⟨_, rfl⟩ := pair_inj h; trivial
  | .sl b off n cp, e, c, h, hb => by
    simp only [sealD] at h
    split at h
    · rename_i blk hblk
      cases cp <;> simp only at h <;> obtain ⟨_, rfl⟩ := pair_inj h <;> simp only [sealDB, hblk, Bool.and_eq_true, decide_eq_true_eq] at hb <;> exact ⟨namelessLB_ok _ hb.1, hb.2⟩
    · cases h
  | .ptr b off, e, c, h, hb => by
    simp only [sealD] at h
    split at h
    · rename_i blk hblk
      obtain ⟨_, rfl⟩ := pair_inj h
      simp only [sealDB, hblk, Bool.and_eq_true, decide_eq_true_eq] at hb
      exact ⟨namelessLB_ok _ hb.1, hb.2⟩
    · cases h
  | .agg xs, e, c, h, hb => by
    simp only [sealD] at h
    split at h
    · rename_i hl
      obtain ⟨_, rfl⟩ := pair_inj h
      exact sealLB_ok xs _ _ hl (by simpa only [sealDB] using hb)
    · cases h
  | .tup xs, e, c, h, hb => by
    simp only [sealD] at h
    split at h
    · rename_i hl
      obtain ⟨_, rfl⟩ := pair_inj h
      exact sealLB_ok xs _ _ hl (by simpa only [sealDB] using hb)
    · cases h
  | .ifc t d, e, c, h, hb => by
    simp only [sealD] at h
    split at h
    · rename_i hl
      obtain ⟨_, rfl⟩ := pair_inj h
      exact sealDB_ok d _ _ hl (by simpa only [sealDB] using hb)
    · cases h
  | .fn f j caps, e, c, h, hb => by
    simp only [sealD] at h
    split at h
    · rename_i hl
      obtain ⟨_, rfl⟩ := pair_inj h
      exact sealLB_ok caps _ _ hl (by simpa only [sealDB] using hb)
    · cases h
theorem sealLB_ok {H : Heap} : ∀ (ds es : List D) (c : Prop), sealL H ds = some (es, c) → sealLB H ds = true → c
  | [], es, c, h, hb => by simp only [sealL] at h; obtain ⟨_, rfl⟩ := pair_inj h; trivial
  | d :: ds, es, c, h, hb => by
    simp only [sealL] at h
    split at h
    · rename_i h1 h2
      obtain ⟨_, rfl⟩ := pair_inj h
      simp only [sealLB, Bool.and_eq_true] at hb
      exact ⟨sealDB_ok d _ _ h1 hb.1, sealLB_ok ds _ _ h2 hb.2⟩
    · cases h
end
end Go.VD
end
section
namespace Go.VD
set_option linter.unusedVariables false
set_option linter.unusedSimpArgs false
theorem exists_min {p : Nat → Prop} (h : ∃ n, p n) : ∃ n, p n ∧ ∀ m, p m → n ≤ m := by
  obtain ⟨n, hn⟩ := h
  induction n using Nat.strongRecOn with
  | _ n ih =>
    by_cases hm : ∃ m, m < n ∧ p m
    · obtain ⟨m, h1, h2⟩ := hm
      exact ih m h1 h2
    · exact ⟨n, hn, fun m h2 => Nat.le_of_not_lt fun h1 => hm ⟨m, h1, h2⟩⟩
open Classical in
theorem wp_scope_ghost {P : Program} {a : Act} {w : World} {Q : Exit → Act → World → Prop} {c rest : Code} (l : Nat) (J : Nat → Act → World → Prop) (hf : findLabel c l = some rest)
    (first : c.wp P (Exit.jump l (fun a w => ∃ n, J n a w) Q) a w)
    (pass : ∀ n a w, J n a w → rest.wp P (Exit.jump l (fun a' w' => ∃ m, m < n ∧ J m a' w') Q) a w) : (Code.scope c).wp P Q a w := by
  let μ : Act → World → Nat := fun a w => if h : ∃ n, J n a w then Classical.choose (exists_min h) else 0
  refine wp_scope_jumps l (fun a w => ∃ n, J n a w) μ hf first fun a w hJ => ?_
  have hs := Classical.choose_spec (exists_min hJ)
  have hμ : μ a w = Classical.choose (exists_min hJ) := dif_pos hJ
  refine wp_mono (pass _ a w hs.1) fun e a' w' he => ?_
  cases e with
  | goto l' =>
    obtain ⟨rfl, m, hm, hJm⟩ := he
    have h' : ∃ n, J n a' w' := ⟨m, hJm⟩
    refine ⟨rfl, h', ?_⟩
    have h2 := (Classical.choose_spec (exists_min h')).2 m hJm
    have h3 : μ a' w' = Classical.choose (exists_min h') := dif_pos h'
    show μ a' w' < μ a w
    rw [hμ, h3]
    omega
  | _ => exact he
def jumpQ (l : Nat) (J : Env → Heap → Prop) (Q : Exit → Env → Heap → Prop) : Exit → Env → Heap → Prop
  | .goto l', env, H => l' = l ∧ J env H
  | e, env, H => Q e env H
theorem RdL.moveZ {ρ ρ' : Nat → Nat × Nat} {S : Nat → Prop} {w : World} {H H' : Heap} {ds : List D} {us : List Value} (hn : NamelessL ds) (h : RdL (ctx ρ S w H) ds us) : RdL (ctx ρ' S w H') ds us :=
  RdL.nameless (E := ctx ρ S w H) (E' := ctx ρ' S w H') (fun _ h => h) (fun _ _ => rfl) ds us hn h
theorem CallJ.framePtr {P : Program} {f : FuncId} {off : Nat} {plain : List D} {blk blk' : Blk} {d : D} (h : CallJ P f (.ptr 0 off :: plain) [some blk] d [some blk']) (hpl : NamelessL plain) (hd : Nameless d) (hc : NamelessL blk.cs) (hc' : NamelessL blk'.cs)
    {H : Heap} {b : Nat} (hb : H[b]? = some (some blk)) : CallJ P f (.ptr b off :: plain) H d (H.set b (some blk')) := by
  have hbl : b < H.length := (List.getElem?_eq_some_iff.1 hb).1
  refine ⟨h.1, fun ρ S w vals hS hv => ?_⟩
  have live1 : ∀ k, Live (fun _ => ρ b) [some blk] k → 0 < (ρ b).2 ∧ (ρ b).1 = k := by
    rintro k ⟨i, bl, hi, hz, e⟩
    exact ⟨hz, e⟩
  have live1H : ∀ k, Live (fun _ => ρ b) [some blk] k → Live ρ H k := fun k hk => ⟨b, blk, hb, (live1 k hk).1, (live1 k hk).2⟩
  have hS1 : St (fun _ => ρ b) S w [some blk] := by
    refine ⟨fun k hk => ⟨(hS.sub k hk).1, fun hl => (hS.sub k hk).2 (live1H k hl)⟩, fun i bl hi hz => ?_, fun i bl hi hz => ?_, fun i j bi bj hi hj _ _ _ => ?_, hS.glob⟩
    · cases i with
      | zero => simp at hi; subst hi; exact hS.none b _ hb hz
      | succ i => simp at hi
    · cases i with
      | zero =>
        simp at hi; subst hi
        obtain ⟨cur, hcur⟩ := hS.blk b _ hb hz
        exact ⟨cur, hcur.heap, hcur.size, RdL.moveZ hc hcur.pre, hcur.full⟩
      | succ i => simp at hi
    · cases i with
      | zero => cases j with
        | zero => rfl
        | succ j => simp at hj
      | succ i => simp at hi
  have hv1 : RdT (ctx (fun _ => ρ b) S w [some blk]) (.ptr 0 off :: plain) vals := by
    simp only [RdT] at hv ⊢
    obtain ⟨u, r, e, h1, h2⟩ := hv
    refine ⟨u, r, e, ?_, RdT.move hpl h2⟩
    simp only [Rd] at h1 ⊢; exact ⟨by simp, h1.2⟩
  refine (h.2 _ S w vals hS1 hv1).mono fun e w' ⟨v, ρ', S', he, hS', hle, hr⟩ => ?_
  have e0 : ρ' 0 = ρ b := hle.ρ 0 (by simp)
  have live' : ∀ k, Live ρ (H.set b (some blk')) k → (0 < (ρ b).2 ∧ (ρ b).1 = k) ∨ ∃ i bl, i ≠ b ∧ H[i]? = some (some bl) ∧ 0 < (ρ i).2 ∧ (ρ i).1 = k := by
    rintro k ⟨i, bl, hi, hz, e⟩
    by_cases hib : b = i
    · subst hib; exact .inl ⟨hz, e⟩
    · rw [List.getElem?_set_ne hib] at hi
      exact .inr ⟨i, bl, fun e => hib e.symm, hi, hz, e⟩
  have live2 : ∀ k, (0 < (ρ b).2 ∧ (ρ b).1 = k) → Live ρ' [some blk'] k := fun k hk => ⟨0, blk', by simp, by rw [e0]; exact hk.1, by rw [e0]; exact hk.2⟩
  have hle2 : (ctx ρ S w H).le (ctx ρ S' w' (H.set b (some blk'))) := by
    refine ⟨by simp, fun _ _ => rfl, hle.S, hle.keep, fun k hk => ?_, fun k hk => ⟨Nat.lt_of_lt_of_le hk.1 hle.size, fun hl => ?_⟩, fun k hk => hle.heap k ⟨hk.1, fun hl => hk.2 (live1H k hl)⟩, hle.size, hle.os, hle.tape, hle.output⟩
    · rcases hle.new k hk with h | h | h
      · exact .inl h
      · exact .inr (.inl (live1H k h))
      · exact .inr (.inr h)
    · rcases live' k hl with h | ⟨i, bl, _, hi, hz, e⟩
      · exact hk.2 ⟨b, blk, hb, h.1, h.2⟩
      · exact hk.2 ⟨i, bl, hi, hz, e⟩
  refine ⟨v, ρ, S', he, ⟨fun k hk => ⟨(hS'.sub k hk).1, fun hl => ?_⟩, fun i bl hi hz => ?_, fun i bl hi hz => ?_, fun i j bi bj hi hj hz hz' e => ?_, hS'.glob⟩, hle2, Rd.move hd hr⟩
  · rcases live' k hl with h | ⟨i, bl, hib, hi, hz, e⟩
    · exact (hS'.sub k hk).2 (live2 k h)
    · rcases hle.new k hk with h | h | h
      · exact (hS.sub k h).2 ⟨i, bl, hi, hz, e⟩
      · obtain ⟨hz1, e1⟩ := live1 k h
        exact hib (hS.inj i b _ _ hi hb hz hz1 (e.trans e1.symm))
      · have := hS.lt ⟨i, bl, hi, hz, e⟩; simp only [ctx] at *; omega
  · by_cases hib : b = i
    · subst hib
      rw [List.getElem?_set_self hbl] at hi
      injection hi with hi; injection hi with hi; subst hi
      exact hS'.none 0 blk' (by simp) (by rw [e0]; exact hz)
    · rw [List.getElem?_set_ne hib] at hi; exact hS.none i bl hi hz
  · by_cases hib : b = i
    · subst hib
      rw [List.getElem?_set_self hbl] at hi
      injection hi with hi; injection hi with hi; subst hi
      obtain ⟨cur, hcur⟩ := hS'.blk 0 blk' (by simp) (by rw [e0]; exact hz)
      have hh := hcur.heap
      have hs := hcur.size
      rw [e0] at hh hs
      exact ⟨cur, hh, hs, RdL.moveZ hc' hcur.pre, hcur.full⟩
    · rw [List.getElem?_set_ne hib] at hi
      obtain ⟨cur, hcur⟩ := hS.blk i bl hi hz
      refine ⟨cur, hcur.heap.of (hle.heap _ ⟨hcur.lt, fun hl => ?_⟩), hcur.size, hcur.pre.mono hle2 _ _, hcur.full⟩
      obtain ⟨hz1, e1⟩ := live1 _ hl
      exact hib (hS.inj b i _ _ hb hi hz1 hz e1)
  · have back : ∀ i bi, (H.set b (some blk'))[i]? = some (some bi) → ∃ bl, H[i]? = some (some bl) := fun i bi hi => by
      by_cases hib : b = i
      · subst hib; exact ⟨blk, hb⟩
      · rw [List.getElem?_set_ne hib] at hi; exact ⟨bi, hi⟩
    obtain ⟨x, hx⟩ := back i bi hi
    obtain ⟨y, hy⟩ := back j bj hj
    exact hS.inj i j x y hx hy hz hz' e
theorem fin_head {ds : List D} {blk blk' : Blk} {d1 : D} {H1 : Heap} (h00 : H1[0]? = some (some blk')) (hn : Nameless d1) (hc' : NamelessL blk'.cs) : Fin ds [some blk] d1 H1 d1 [some blk'] := by
  intro ρ0 S0 w0 ρ S w u hS0 hle hS hr
  have live0 : ∀ k, Live ρ [some blk'] k → 0 < (ρ 0).2 ∧ (ρ 0).1 = k := by
    rintro k ⟨b, bl, hb, hz, e⟩
    cases b with
    | zero => exact ⟨hz, e⟩
    | succ b => simp at hb
  have up : ∀ k, Live ρ [some blk'] k → Live ρ H1 k := fun k hk => ⟨0, blk', h00, (live0 k hk).1, (live0 k hk).2⟩
  refine ⟨ρ, S, ⟨fun k hk => ⟨(hS.sub k hk).1, fun hl => (hS.sub k hk).2 (up k hl)⟩, fun b bl hb hz => ?_, fun b bl hb hz => ?_, fun i j bi bj hi hj _ _ _ => ?_, hS.glob⟩, ?_, Rd.move hn hr⟩
  · cases b with
    | zero => simp at hb; subst hb; exact hS.none 0 _ h00 hz
    | succ b => simp at hb
  · cases b with
    | zero =>
      simp at hb; subst hb
      obtain ⟨cur, hcur⟩ := hS.blk 0 _ h00 hz
      exact ⟨cur, hcur.heap, hcur.size, RdL.moveZ hc' hcur.pre, hcur.full⟩
    | succ b => simp at hb
  · cases i with
    | zero => cases j with
      | zero => rfl
      | succ j => simp at hj
    | succ i => simp at hi
  · exact ⟨by simp, hle.ρ, hle.S, hle.keep, hle.new, fun k hk => ⟨(hle.fix k hk).1, fun hl => (hle.fix k hk).2 (up k hl)⟩, hle.heap, hle.size, hle.os, hle.tape, hle.output⟩
variable {P : Program} {nt : Nat}
theorem DW.scopeJump {α : Type} {l : Nat} (J : α → Prop) (I : α → Env) (HI : α → Heap) (μ : α → Nat) {c rest : Code} {Q : Exit → Env → Heap → Prop} {env : Env} {H : Heap} (hf : findLabel c l = some rest)
    (first : DW P nt c (jumpQ l (fun env' H' => ∃ y, J y ∧ Has env' (I y) ∧ H' = HI y) Q) env H)
    (pass : ∀ x, J x → DW P nt rest (jumpQ l (fun env' H' => ∃ y, μ y < μ x ∧ J y ∧ Has env' (I y) ∧ H' = HI y) Q) (I x) (HI x)) : DW P nt (.scope c) Q env H := by
  intro ρ S w a hi
  refine wp_scope_ghost l (fun n a' w' => ∃ x ρ' S', μ x = n ∧ J x ∧ Inv nt ρ' S' w' (HI x) (I x) a' ∧ (ctx ρ S w H).le (ctx ρ' S' w' (HI x))) hf ?_ ?_
  · refine wp_mono (first ρ S w a hi) fun e a' w' ⟨env', H', ρ', S', h1, h2, h3⟩ => ?_
    cases e with
    | goto l' =>
      obtain ⟨rfl, y, hJ, hhas, rfl⟩ := h1
      exact ⟨rfl, μ y, y, ρ', S', rfl, hJ, h2.sub hhas, h3⟩
    | _ => exact ⟨env', H', ρ', S', h1, h2, h3⟩
  · rintro n a' w' ⟨x, ρ', S', rfl, hx, hi', hle⟩
    refine wp_mono (pass x hx ρ' S' w' a' hi') fun e a'' w'' ⟨env', H', ρ'', S'', h1, h2, h3⟩ => ?_
    cases e with
    | goto l' =>
      obtain ⟨rfl, y, hy, hJ, hhas, rfl⟩ := h1
      exact ⟨rfl, μ y, hy, y, ρ'', S'', rfl, hJ, h2.sub hhas, hle.trans h3⟩
    | _ => exact ⟨env', H', ρ'', S'', h1, h2, hle.trans h3⟩
end Go.VD
end
