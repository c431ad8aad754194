/- Operations that touch none of the call's own blocks, on data, and their soundness. -/
import Derived.Test.YthnhfkpihbjddaaVb
namespace Go.VD
set_option linter.unusedVariables false

abbrev Env := List (Nat × D)

def opnd (env : Env) : Operand → Option D
  | .tmp t => env.lookup t
  | .const (.agg cs) => if cs.toList.all (·.oneCell') then some (.agg (cs.toList.map .v)) else none
  | .const v => some (.v v)
  | .global g => match glob.lookup g with
    | some xs => some (.rp (gcells xs) 0)
    | none => some (.v (.pointer (some ⟨g, 0, none⟩)))
  | .func f => some (.fn f 0 [])

theorem RdL.scalars (E : Ctx) : ∀ (l : List Value), (l.all (·.oneCell')) = true → RdL E (l.map .v) l
  | [], _ => by simp [RdL]
  | x :: l, h => by
    simp only [List.all_cons, Bool.and_eq_true] at h
    simp only [List.map_cons, RdL]
    exact ⟨x, l, rfl, h.1, by simp [Rd], RdL.scalars E l h.2⟩

theorem get_rd {E : Ctx} {env : Env} {a : Act} (hG : GOK E.S E.w) (h : ∀ t d, env.lookup t = some d → Rd E d (a.tmps.getD t undef)) : ∀ (x : Operand) (d : D), opnd env x = some d → Rd E d (a.eval x) := by
  intro x d hx
  unfold opnd at hx
  split at hx
  · exact h _ _ hx
  · split at hx
    · rename_i cs hall
      injection hx with hx; subst hx
      simp only [Rd]
      exact ⟨cs, rfl, RdL.scalars E _ hall⟩
    · cases hx
  · injection hx with hx; subst hx; simp [Rd, Act.eval]
  · split at hx
    · rename_i hg; injection hx with hx; subst hx; exact hG.rd hg
    · injection hx with hx; subst hx; simp [Rd, Act.eval]
  · injection hx with hx; subst hx; simp only [Rd, Act.eval]; exact ⟨#[], #[], rfl, rfl, by simp [RdT]⟩

def pickD : Option D → Option D → Option D → Option (D × Prop)
  | some (.v (.bool x)), some (.v (.bool a)), some (.v (.bool b)) => some (.v (.bool (bif x then a else b)), True)
  | some (.v (.bool x)), some da, some db => some (bif x then da else db, True)
  | some (.v (.bool x)), some da, none => some (da, x = true)
  | some (.v (.bool x)), none, some db => some (db, x = false)
  | _, _, _ => none
def unD (op : UnOp) : Option D → Option (D × Prop)
  | some (.v x) => (unV op x).map fun z => (.v z, True)
  | _ => none
def nilCmp (td : Option TD) (op : BinOp) (n : Nat) : Option (D × Prop) :=
  match td, op with
  | some (.slice _), .eql => some (.v (.bool false), 0 < n)
  | some (.slice _), .neq => some (.v (.bool true), 0 < n)
  | _, _ => none
def binD (td : Option TD) (op : BinOp) : Option D → Option D → Option (D × Prop)
  | some (.v x), some (.v y) => (binV td op x y).map fun p => (.v p.1, p.2)
  | some (.ro n _), some (.v (.slice none 0 0)) => nilCmp td op n
  | some (.sl _ _ n _), some (.v (.slice none 0 0)) => nilCmp td op n
  | _, _ => none
def cellInt : D → Int
  | .v (.int _ n) => n
  | _ => 0
def cellBool : D → Bool
  | .v (.bool b) => b
  | _ => false
def cellStr : D → ByteArray
  | .v (.string s) => s
  | _ => .empty
def IsInt (k : IntKind) (d : D) : Prop := d = .v (.int k (cellInt d))
def IsBool (d : D) : Prop := d = .v (.bool (cellBool d))
def IsStr (d : D) : Prop := d = .v (.string (cellStr d))
theorem cellInt_lit (k : IntKind) (n : Int) : cellInt (.v (.int k n)) = n := rfl
theorem cellBool_lit (b : Bool) : cellBool (.v (.bool b)) = b := rfl
theorem cellStr_lit (s : ByteArray) : cellStr (.v (.string s)) = s := rfl
theorem IsInt_lit (k : IntKind) (n : Int) : IsInt k (.v (.int k n)) = True := by simp [IsInt, cellInt]
theorem IsBool_lit (b : Bool) : IsBool (.v (.bool b)) = True := by simp [IsBool, cellBool]
theorem IsStr_lit (s : ByteArray) : IsStr (.v (.string s)) = True := by simp [IsStr, cellStr]
/-- the cells from off on, as a value of type ti; a number, a bool, a string by its kind -/
def partD (ti : TI) (xs : List D) (off : Nat) : D × Prop :=
  match ti.td with
  | .struct _ => (.agg ((xs.drop off).take ti.size), off + ti.size ≤ xs.length)
  | .arr _ _ => (.agg ((xs.drop off).take ti.size), off + ti.size ≤ xs.length)
  | .int k => (.v (.int k (cellInt (xs.getD off default))), off < xs.length ∧ IsInt k (xs.getD off default))
  | .bool => (.v (.bool (cellBool (xs.getD off default))), off < xs.length ∧ IsBool (xs.getD off default))
  | .str => (.v (.string (cellStr (xs.getD off default))), off < xs.length ∧ IsStr (xs.getD off default))
  | _ => (xs.getD off default, off < xs.length)
theorem partD_agg {ti : TI} {xs : List D} {off : Nat} (h : ti.td.isAgg = true) : partD ti xs off = (.agg ((xs.drop off).take ti.size), off + ti.size ≤ xs.length) := by
  unfold partD; cases htd : ti.td <;> simp_all [TD.isAgg]
theorem partD_one {ti : TI} {xs : List D} {off : Nat} (h : ti.td.isAgg = false) (hc : (partD ti xs off).2) : off < xs.length ∧ (partD ti xs off).1 = xs.getD off default := by
  unfold partD at hc ⊢
  cases htd : ti.td <;> simp only [htd] at hc ⊢
  case struct => simp [htd, TD.isAgg] at h
  case arr => simp [htd, TD.isAgg] at h
  case int k => exact ⟨hc.1, hc.2.symm⟩
  case bool => exact ⟨hc.1, hc.2.symm⟩
  case str => exact ⟨hc.1, hc.2.symm⟩
  all_goals exact ⟨hc, trivial⟩
/-- '==' of structs and arrays, cell by cell -/
def eqFs (f : Option TI → D → D → Option (Bool × Prop)) (T : Tbl) (xs ys : List D) : List (Nat × TypeId) → Option (Bool × Prop)
  | [] => some (true, True)
  | (off, ft) :: r => match T ft with
    | some ti => match f (some ti) (partD ti xs off).1 (partD ti ys off).1, eqFs f T xs ys r with
      | some (b, c), some (bs, cs) => some (b && bs, ((partD ti xs off).2 ∧ (partD ti ys off).2) ∧ c ∧ cs)
      | _, _ => none
    | none => none
def arrFs (m : Nat) (e : TypeId) (size : Nat) : List (Nat × TypeId) := (List.range' 0 m 1).map fun i => (i * size, e)
def eqD (T : Tbl) : Nat → Option TI → D → D → Option (Bool × Prop)
  | 0, _, _, _ => none
  | n + 1, some ti, x, y => match ti.td, x, y with
    | .int _, .v (.int k a), .v (.int l b) => if k = l then some (a == b, True) else none
    | .bool, .v (.bool a), .v (.bool b) => some (a == b, True)
    | .str, .v (.string a), .v (.string b) => some (a == b, True)
    | .struct fs, .agg xs, .agg ys => eqFs (eqD T n) T xs ys fs
    | .arr m e, .agg xs, .agg ys => match T e with
      | some te => eqFs (eqD T n) T xs ys (arrFs m e te.size)
      | none => none
    | _, _, _ => none
  | _, none, _, _ => none
def isAggD : Option D → Bool
  | some (.agg _) => true
  | _ => false
def aggEq (T : Tbl) (op : BinOp) (t : Option TI) : Option D → Option D → Option (D × Prop)
  | some x, some y => match op, eqD T 10 t x y with
    | .eql, some (b, c) => some (.v (.bool b), c)
    | .neq, some (b, c) => some (.v (.bool !b), c)
    | _, _ => none
  | _, _ => none
def convD (s d : Option TD) : Option D → Option (D × Prop)
  | some (.v x) => (convV s d x).map fun z => (.v z, True)
  | _ => none
def fieldOf (T : Tbl) (s : TypeId) (f : Nat) : Option (Nat × TI) :=
  match T s with
  | some ⟨.struct fs, _, _, _⟩ => match fs[f]? with
    | some (off, ft) => match T ft with
      | some ti => some (off, ti)
      | none => none
    | none => none
  | _ => none
def fieldAddrD (F : Option (Nat × TI)) : Option D → Option (D × Prop)
  | some (.ptr b o) => match F with
    | some (off, ti) => if ti.size = 0 then none else some (.ptr b (o + off), True)
    | none => none
  | some (.rp xs j) => match F with
    | some (off, ti) => if ti.size = 0 then none else some (.rp xs (j + off), True)
    | none => none
  | _ => none
def fieldD (F : Option (Nat × TI)) : Option D → Option (D × Prop)
  | some (.agg xs) => match F with
    | some (off, ti) => some (partD ti xs off)
    | none => none
  | _ => none
def elemOf (T : Tbl) : TD → Option TI
  | .slice e => T e
  | .arr _ e => T e
  | _ => none
def indexAddrD (T : Tbl) (t : Option TI) : Option D → Option D → Option (D × Prop)
  | some (.ro n xs), some (.v (.int _ i)) => match t with
    | some ⟨.slice e, _, _, _⟩ => match T e with
      | some ti => some (.rp xs (i.toNat * ti.size), 0 ≤ i ∧ i < n)
      | none => none
    | _ => none
  | some (.sl b off n _), some (.v (.int _ i)) => match t with
    | some ⟨.slice e, _, _, _⟩ => match T e with
      | some ti => some (.ptr b (off + i.toNat * ti.size), 0 ≤ i ∧ i < n)
      | none => none
    | _ => none
  | some (.ptr b off), some (.v (.int _ i)) => match t with
    | some ⟨.arr m e, _, _, _⟩ => match T e with
      | some ti => some (.ptr b (off + i.toNat * ti.size), 0 ≤ i ∧ i < m)
      | none => none
    | _ => none
  | some (.rp xs j), some (.v (.int _ i)) => match t with
    | some ⟨.arr m e, _, _, _⟩ => match T e with
      | some ti => some (.rp xs (j + i.toNat * ti.size), 0 ≤ i ∧ i < m)
      | none => none
    | _ => none
  | _, _ => none
def indexD (T : Tbl) (t : Option TI) : Option D → Option D → Option (D × Prop)
  | some (.v (.string s)), some (.v (.int _ i)) => match t with
    | some ⟨.str, _, _, _⟩ => some (.v (.int .u8 ((s.data.toList.getD i.toNat 0).toNat : Nat)), 0 ≤ i ∧ i < s.size)
    | _ => none
  | some (.agg xs), some (.v (.int _ i)) => match t with
    | some ⟨.arr m e, _, _, _⟩ => match T e with
      | some ti => let p := partD ti xs (i.toNat * ti.size); some (p.1, (0 ≤ i ∧ i < m) ∧ p.2)
      | none => none
    | _ => none
  | _, _ => none
/-- cells read one by one, each by its kind -/
def cellsZ : List Value → List D → Nat → List D
  | [], _, _ => []
  | .int k _ :: r, xs, off => .v (.int k (cellInt (xs.getD off default))) :: cellsZ r xs (off + 1)
  | .bool _ :: r, xs, off => .v (.bool (cellBool (xs.getD off default))) :: cellsZ r xs (off + 1)
  | _ :: r, xs, off => xs.getD off default :: cellsZ r xs (off + 1)
def cellsZC : List Value → List D → Nat → Prop
  | [], _, _ => True
  | .int k _ :: r, xs, off => IsInt k (xs.getD off default) ∧ cellsZC r xs (off + 1)
  | .bool _ :: r, xs, off => IsBool (xs.getD off default) ∧ cellsZC r xs (off + 1)
  | _ :: r, xs, off => cellsZC r xs (off + 1)
theorem cellsZ_eq : ∀ (z : List Value) (xs : List D) (off : Nat), off + z.length ≤ xs.length → cellsZC z xs off → cellsZ z xs off = (xs.drop off).take z.length
  | [], xs, off, _, _ => by simp [cellsZ]
  | u :: r, xs, off, hl, hc => by
    simp only [List.length_cons] at hl
    have hd : xs.drop off = xs.getD off default :: xs.drop (off + 1) := by
      rw [List.drop_eq_getElem_cons (by omega), List.getD_eq_getElem?_getD, List.getElem?_eq_getElem (by omega)]; rfl
    have step : cellsZC r xs (off + 1) → cellsZ r xs (off + 1) = (xs.drop (off + 1)).take r.length := fun h => cellsZ_eq r xs (off + 1) (by omega) h
    rw [hd, List.length_cons, List.take_succ_cons]
    cases u <;> simp only [cellsZ, cellsZC] at hc ⊢
    case int k n => rw [step hc.2]; congr 1; exact hc.1.symm
    case bool b => rw [step hc.2]; congr 1; exact hc.1.symm
    all_goals rw [step hc]
def partC (ti : TI) (xs : List D) (off : Nat) : D × Prop :=
  match ti.td with
  | .struct _ => (.agg (cellsZ ti.zero xs off), off + ti.size ≤ xs.length ∧ cellsZC ti.zero xs off)
  | .arr _ _ => (.agg (cellsZ ti.zero xs off), off + ti.size ≤ xs.length ∧ cellsZC ti.zero xs off)
  | _ => partD ti xs off
theorem partC_eq {ti : TI} {xs : List D} {off : Nat} (hz : ti.zero.length = ti.size) (hc : (partC ti xs off).2) : (partD ti xs off).2 ∧ (partC ti xs off).1 = (partD ti xs off).1 := by
  unfold partC at hc ⊢
  cases htd : ti.td <;> simp only [htd] at hc ⊢
  case struct => 
    have hp : partD ti xs off = (.agg ((xs.drop off).take ti.size), off + ti.size ≤ xs.length) := partD_agg (by rw [htd]; rfl)
    rw [hp]; exact ⟨hc.1, by rw [cellsZ_eq _ _ _ (by rw [hz]; exact hc.1) hc.2, hz]⟩
  case arr =>
    have hp : partD ti xs off = (.agg ((xs.drop off).take ti.size), off + ti.size ≤ xs.length) := partD_agg (by rw [htd]; rfl)
    rw [hp]; exact ⟨hc.1, by rw [cellsZ_eq _ _ _ (by rw [hz]; exact hc.1) hc.2, hz]⟩
  all_goals exact ⟨hc, trivial⟩
def loadP (t : Option TI) : Option D → Option (D × Prop)
  | some (.rp xs j) => match t with
    | some ti => some (partC ti xs j)
    | none => none
  | _ => none
def extractD (i : Nat) : Option D → Option (D × Prop)
  | some (.tup xs) => match xs[i]? with
    | some d => some (d, True)
    | none => none
  | _ => none
/-- a slice expression's bound: none where it lacks, some none where it is no integer -/
def intO (env : Env) : Option Operand → Option (Option Int)
  | none => some none
  | some x => match opnd env x with
    | some (.v (.int _ i)) => some (some i)
    | _ => none
def hiN (n : Nat) : Option Int → Nat
  | none => n
  | some j => j.toNat
def loN : Option Int → Nat
  | none => 0
  | some j => j.toNat
def sliceC (n : Nat) (lo hi mx : Option Int) : Prop :=
  (match lo with | none => True | some i => 0 ≤ i ∧ i ≤ hiN n hi) ∧
  (match hi with | none => True | some j => 0 ≤ j ∧ j ≤ hiN n mx) ∧
  (match mx with | none => True | some m => 0 ≤ m ∧ m ≤ n ∧ hi.isSome = true)
def segD (es : Nat) (xs : List D) (n : Nat) (lo hi : Option Int) : List D :=
  match lo, hi with
  | none, none => xs
  | none, some h => xs.take (h.toNat * es)
  | some l, none => xs.drop (l.toNat * es)
  | some l, some h => (xs.drop (l.toNat * es)).take ((h.toNat - l.toNat) * es)
def capD (n : Nat) (lo mx : Option Int) : Cap → Cap
  | .exact c es => .exact ((match mx with | none => c | some m => m.toNat) - loN lo) es
  | .toEnd es => match mx with
    | none => .toEnd es
    | some m => .exact (m.toNat - loN lo) es
def sliceD (T : Tbl) (t : Option TI) (lo hi mx : Option (Option Int)) : Option D → Option (D × Prop)
  | some (.ro n xs) => match t, lo, hi, mx with
    | some ⟨.slice e, _, _, _⟩, some lo, some hi, some mx => match T e with
      | some ti => some (.ro (hiN n hi - loN lo) (segD ti.size xs n lo hi), sliceC n lo hi mx)
      | none => none
    | _, _, _, _ => none
  | some (.sl b off n c) => match t, lo, hi, mx with
    | some ⟨.slice e, _, _, _⟩, some lo, some hi, some mx => match T e with
      | some ti => some (.sl b (off + loN lo * ti.size) (hiN n hi - loN lo) (capD n lo mx c), sliceC n lo hi mx ∧ (match c with | .exact _ es => es = ti.size | .toEnd es => es = ti.size))
      | none => none
    | _, _, _, _ => none
  | some (.ptr b off) => match t, lo, hi, mx with
    | some ⟨.arr m e, _, _, _⟩, some lo, some hi, some none => match T e with
      | some ti => some (.sl b (off + loN lo * ti.size) (hiN m hi - loN lo) (.exact (m - loN lo) ti.size), sliceC m lo hi none ∧ m ≤ maxLen)
      | none => none
    | _, _, _, _ => none
  | some (.v (.string s)) => match t, lo, hi, mx with
    | some ⟨.str, _, _, _⟩, some lo, some hi, some none => some (.v (.string (s.extract (loN lo) (hiN s.size hi))), sliceC s.size lo hi none)
    | _, _, _, _ => none
  | some (.v (.slice none 0 0)) => match t, lo, hi, mx with
    | some ⟨.slice e, _, _, _⟩, some lo, some hi, some mx => match T e with
      | some ti => some (.v (.slice none 0 0), sliceC 0 lo hi mx)
      | none => none
    | _, _, _, _ => none
  | _ => none
def cellsD : D → Option (List D)
  | .v z => if z.oneCell' then some [.v z] else none
  | .agg xs => some xs
  | .tup _ => none
  | d => some [d]
def setAll (cs : List D) (off : Nat) : List D → List D
  | [] => cs
  | y :: ys => setAll (cs.set off y) (off + 1) ys
def fillD (place : Nat → Option (Nat × Nat)) (env : Env) (cs : List D) : List (Nat × Operand) → Option (List D)
  | [] => some cs
  | (i, x) :: rest =>
    match place i, (opnd env x).bind cellsD with
    | some (off, size), some ys => if ys.length = size ∧ off + size ≤ cs.length then fillD place env (setAll cs off ys) rest else none
    | _, _ => none
def placeD (T : Tbl) (fs : List (Nat × TypeId)) (i : Nat) : Option (Nat × Nat) :=
  match fs[i]? with
  | some (off, ft) => match T ft with
    | some ti => some (off, ti.size)
    | none => none
  | none => none
def buildD (T : Tbl) (env : Env) (t : Option TI) (parts : List (Nat × Operand)) : Option (D × Prop) :=
  match t with
  | some ⟨.struct fs, _, _, zero⟩ => if fs.all (fun p => (T p.2).isSome) then (fillD (placeD T fs) env (zero.map .v) parts).map fun cs => (.agg cs, True) else none
  | some ⟨.arr n e, _, _, zero⟩ => match T e with
    | some ti => (fillD (fun i => some (i * ti.size, ti.size)) env (zero.map .v) parts).map fun cs => (.agg cs, True)
    | none => none
  | _ => none
def lenD (t : Option TI) : Option D → Option (D × Prop)
  | some (.ro n _) => match t with
    | some ⟨.slice _, _, _, _⟩ => some (.v (.int .i64 (n : Nat)), True)
    | _ => none
  | some (.sl _ _ n _) => match t with
    | some ⟨.slice _, _, _, _⟩ => some (.v (.int .i64 (n : Nat)), True)
    | _ => none
  | some (.v (.string s)) => match t with
    | some ⟨.str, _, _, _⟩ => some (.v (.int .i64 (s.size : Nat)), True)
    | _ => none
  | some (.v (.slice none n c)) => match t with
    | some ⟨.slice _, _, _, _⟩ => some (.v (.int .i64 (n : Nat)), True)
    | _ => none
  | _ => none
def capV (t : Option TI) : Option D → Option (D × Prop)
  | some (.sl _ _ _ (.exact c _)) => match t with
    | some ⟨.slice _, _, _, _⟩ => some (.v (.int .i64 (c : Nat)), True)
    | _ => none
  | some (.v (.slice none n c)) => match t with
    | some ⟨.slice _, _, _, _⟩ => some (.v (.int .i64 (c : Nat)), True)
    | _ => none
  | _ => none
def mm2 (isMax : Bool) : Option D → Option D → Option (D × Prop)
  | some (.v (.int k x)), some (.v (.int l y)) => if k = l then some (.v (.int k (if isMax then max x y else min x y)), True) else none
  | _, _ => none
def getAll (env : Env) : List Operand → Option (List D)
  | [] => some []
  | x :: r => match opnd env x, getAll env r with
    | some d, some ds => some (d :: ds)
    | _, _ => none
def mmL (isMax : Bool) : D → List D → Option (D × Prop)
  | d, [] => some (d, True)
  | d, e :: r => match mm2 isMax (some d) (some e) with
    | some (f, _) => mmL isMax f r
    | none => none
def mmA (isMax : Bool) : Option (List D) → Option (D × Prop)
  | some (d :: ds) => mmL isMax d ds
  | _ => none
def callB (T : Tbl) (env : Env) (b : Builtin) (args : List Operand) (ts : List TypeId) : Option (D × Prop) :=
  match b, args, ts with
  | .len, [x], [t] => lenD (T t) (opnd env x)
  | .cap, [x], [t] => capV (T t) (opnd env x)
  | .max, [x, y], _ => mm2 true (opnd env x) (opnd env y)
  | .min, [x, y], _ => mm2 false (opnd env x) (opnd env y)
  | .max, x :: y :: z :: r, _ => mmA true (getAll env (x :: y :: z :: r))
  | .min, x :: y :: z :: r, _ => mmA false (getAll env (x :: y :: z :: r))
  | _, _, _ => none
def ifcD (xt : TypeId) (t : Option TI) : Option D → Option (D × Prop)
  | some d => match t with
    | some ti => if ti.td = .other then none else some (.ifc xt d, True)
    | none => none
  | none => none
def nilCheckD : Option D → Option (D × Prop)
  | some (.ptr b o) => some (.ptr b o, True)
  | some (.rp xs j) => some (.rp xs j, True)
  | _ => none
def funcD (env : Env) (fn : Fn) (first : List Operand) (caps : List Operand) : Option (D × Prop) :=
  match fn with
  | .func f => (getAll env (first ++ caps)).map fun ds => (.fn f first.length ds, True)
  | _ => none
/-- the arguments of a call of a function value: those that it bears first, those of the call, what it captured -/
def argsOf (k : Nat) (caps ds : List D) : List D := caps.take k ++ (ds ++ caps.drop k)
theorem RdT.split {E : Ctx} : ∀ (us1 us2 : List Value) (ds : List D), RdT E ds (us1 ++ us2) → RdT E (ds.take us1.length) us1 ∧ RdT E (ds.drop us1.length) us2
  | [], us2, ds, h => by simpa [RdT] using h
  | u :: us1, us2, [], h => by simp [RdT] at h
  | u :: us1, us2, d :: ds, h => by
    simp only [RdT, List.cons_append, List.cons.injEq] at h
    obtain ⟨_, _, ⟨rfl, rfl⟩, h1, h2⟩ := h
    have := RdT.split us1 us2 ds h2
    refine ⟨?_, by simpa using this.2⟩
    simp only [List.length_cons, List.take_succ_cons, RdT]
    exact ⟨u, us1, rfl, h1, this.1⟩
theorem RdT.app {E : Ctx} : ∀ (ds : List D) (us : List Value) (ds' : List D) (us' : List Value), RdT E ds us → RdT E ds' us' → RdT E (ds ++ ds') (us ++ us')
  | [], us, ds', us', hr, hr' => by simp only [RdT] at hr; subst hr; simpa using hr'
  | d :: ds, us, ds', us', hr, hr' => by
    simp only [RdT] at hr
    obtain ⟨u, r, e, hd, hr⟩ := hr
    subst e
    simp only [List.cons_append, RdT]
    exact ⟨u, r ++ us', rfl, hd, RdT.app ds r ds' us' hr hr'⟩
theorem RdT.argsOf {E : Ctx} {k : Nat} {caps ds : List D} {fs us : Array Value} {vs : List Value} (hk : fs.size = k) (h : RdT E caps (fs.toList ++ us.toList)) (hd : RdT E ds vs) : RdT E (argsOf k caps ds) (fs.toList ++ (vs ++ us.toList)) := by
  have := RdT.split _ _ _ h
  rw [Array.length_toList, hk] at this
  exact RdT.app _ _ _ _ this.1 (RdT.app _ _ _ _ hd this.2)

def opP (T : Tbl) (env : Env) : Op → Option (D × Prop)
  | .move x => (opnd env x).map fun d => (d, True)
  | .assign x => (opnd env x).map fun d => (d, True)
  | .pick c a b => pickD (opnd env c) (opnd env a) (opnd env b)
  | .unOp op _ x => unD op (opnd env x)
  | .binOp op t x y _ => bif isAggD (opnd env x) then aggEq T op (T t) (opnd env x) (opnd env y) else binD ((T t).map (·.td)) op (opnd env x) (opnd env y)
  | .convert s d x => convD ((T s).map (·.td)) ((T d).map (·.td)) (opnd env x)
  | .fieldAddr s x f => fieldAddrD (fieldOf T s f) (opnd env x)
  | .field s x f => fieldD (fieldOf T s f) (opnd env x)
  | .indexAddr t x i => indexAddrD T (T t) (opnd env x) (opnd env i)
  | .index t x i => indexD T (T t) (opnd env x) (opnd env i)
  | .load t x => loadP (T t) (opnd env x)
  | .extract x i => extractD i (opnd env x)
  | .slice t x lo hi mx => sliceD T (T t) (intO env lo) (intO env hi) (intO env mx) (opnd env x)
  | .build t parts => buildD T env (T t) parts.toList
  | .makeInterface t x => ifcD t (T t) (opnd env x)
  | .makeFunc fn first caps => funcD env fn first.toList caps.toList
  | .nilCheck x => nilCheckD (opnd env x)
  | .call { callee := .builtin b, args, argTypes } => callB T env b args.toList argTypes.toList
  | _ => none
end Go.VD
