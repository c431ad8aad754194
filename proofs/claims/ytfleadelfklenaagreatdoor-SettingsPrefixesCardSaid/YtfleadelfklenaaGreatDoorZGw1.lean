import Derived.Test.YtfleadelfklenaaGreatDoorZGw0
section
namespace Go.VD
set_option linter.unusedVariables false
abbrev Env := List (Nat × D)
def opnd (env : Env) : Operand → Option D
  | .tmp t => env.lookup t
  | .const (.agg cs) => if cs.toList.all (·.oneCell') then some (.agg (cs.toList.map .v)) else none
  | .const v => some (.v v)
  | .global g => match glob.lookup g with
    | some xs => some (.rp (gcells xs) 0)
    | none => some (.v (.pointer (some ⟨g, 0, none⟩)))
  | .func f => some (.fn f 0 [])
theorem RdL.scalars (E : Ctx) : ∀ (l : List Value), (l.all (·.oneCell')) = true → RdL E (l.map .v) l
  | [], _ => by simp [RdL]
  | x :: l, h => by
    simp only [List.all_cons, Bool.and_eq_true] at h
    simp only [List.map_cons, RdL]
    exact ⟨x, l, rfl, h.1, by simp [Rd], RdL.scalars E l h.2⟩
theorem get_rd {E : Ctx} {env : Env} {a : Act} (hG : GOK E.S E.w) (h : ∀ t d, env.lookup t = some d → Rd E d (a.tmps.getD t undef)) : ∀ (x : Operand) (d : D), opnd env x = some d → Rd E d (a.eval x) := by
  intro x d hx
  unfold opnd at hx
  split at hx
  · exact h _ _ hx
  · split at hx
    · rename_i cs hall
      injection hx with hx; subst hx
      simp only [Rd]
      exact ⟨cs, rfl, RdL.scalars E _ hall⟩
    · cases hx
  · injection hx with hx; subst hx; simp [Rd, Act.eval]
  · split at hx
    · rename_i hg; injection hx with hx; subst hx; exact hG.rd hg
    · injection hx with hx; subst hx; simp [Rd, Act.eval]
  · injection hx with hx; subst hx; simp only [Rd, Act.eval]; exact ⟨#[], #[], rfl, rfl, by simp [RdT]⟩
def pickD : Option D → Option D → Option D → Option (D × Prop)
  | some (.v (.bool x)), some (.v (.bool a)), some (.v (.bool b)) => some (.v (.bool (bif x then a else b)), True)
  | some (.v (.bool x)), some da, some db => some (bif x then da else db, True)
  | some (.v (.bool x)), some da, none => some (da, x = true)
  | some (.v (.bool x)), none, some db => some (db, x = false)
  | _, _, _ => none
def unD (op : UnOp) : Option D → Option (D × Prop)
  | some (.v x) => (unV op x).map fun z => (.v z, True)
  | _ => none
def nilCmp (td : Option TD) (op : BinOp) (n : Nat) : Option (D × Prop) :=
  match td, op with
  | some (.slice _), .eql => some (.v (.bool false), 0 < n)
  | some (.slice _), .neq => some (.v (.bool true), 0 < n)
  | _, _ => none
def binD (td : Option TD) (op : BinOp) : Option D → Option D → Option (D × Prop)
  | some (.v x), some (.v y) => (binV td op x y).map fun p => (.v p.1, p.2)
  | some (.ro n _), some (.v (.slice none 0 0)) => nilCmp td op n
  | some (.sl _ _ n _), some (.v (.slice none 0 0)) => nilCmp td op n
  | _, _ => none
def cellInt : D → Int
  | .v (.int _ n) => n
  | _ => 0
def cellBool : D → Bool
  | .v (.bool b) => b
  | _ => false
def cellStr : D → ByteArray
  | .v (.string s) => s
  | _ => .empty
def IsInt (k : IntKind) (d : D) : Prop := d = .v (.int k (cellInt d))
def IsBool (d : D) : Prop := d = .v (.bool (cellBool d))
def IsStr (d : D) : Prop := d = .v (.string (cellStr d))
theorem cellInt_lit (k : IntKind) (n : Int) : cellInt (.v (.int k n)) = n := rfl
theorem cellBool_lit (b : Bool) : cellBool (.v (.bool b)) = b := rfl
theorem cellStr_lit (s : ByteArray) : cellStr (.v (.string s)) = s := rfl
theorem IsInt_lit (k : IntKind) (n : Int) : IsInt k (.v (.int k n)) = True := by simp [IsInt, cellInt]
theorem IsBool_lit (b : Bool) : IsBool (.v (.bool b)) = True := by simp [IsBool, cellBool]
theorem IsStr_lit (s : ByteArray) : IsStr (.v (.string s)) = True := by simp [IsStr, cellStr]
def partD (ti : TI) (xs : List D) (off : Nat) : D × Prop :=
  match ti.td with
  | .struct _ => (.agg ((xs.drop off).take ti.size), off + ti.size ≤ xs.length)
  | .arr _ _ => (.agg ((xs.drop off).take ti.size), off + ti.size ≤ xs.length)
  | .int k => (.v (.int k (cellInt (xs.getD off default))), off < xs.length ∧ IsInt k (xs.getD off default))
  | .bool => (.v (.bool (cellBool (xs.getD off default))), off < xs.length ∧ IsBool (xs.getD off default))
  | .str => (.v (.string (cellStr (xs.getD off default))), off < xs.length ∧ IsStr (xs.getD off default))
  | _ => (xs.getD off default, off < xs.length)
theorem partD_agg {ti : TI} {xs : List D} {off : Nat} (h : ti.td.isAgg = true) : partD ti xs off = (.agg ((xs.drop off).take ti.size), off + ti.size ≤ xs.length) := by
  unfold partD; cases htd : ti.td <;> simp_all [TD.isAgg]
theorem partD_one {ti : TI} {xs : List D} {off : Nat} (h : ti.td.isAgg = false) (hc : (partD ti xs off).2) : off < xs.length ∧ (partD ti xs off).1 = xs.getD off default := by
  unfold partD at hc ⊢
  cases htd : ti.td <;> simp only [htd] at hc ⊢
  case struct => simp [htd, TD.isAgg] at h
  case arr => simp [htd, TD.isAgg] at h
  case int k => exact ⟨hc.1, hc.2.symm⟩
  case bool => exact ⟨hc.1, hc.2.symm⟩
  case str => exact ⟨hc.1, hc.2.symm⟩
  all_goals exact ⟨hc, trivial⟩
def eqFs (f : Option TI → D → D → Option (Bool × Prop)) (T : Tbl) (xs ys : List D) : List (Nat × TypeId) → Option (Bool × Prop)
  | [] => some (true, True)
  | (off, ft) :: r => match T ft with
    | some ti => match f (some ti) (partD ti xs off).1 (partD ti ys off).1, eqFs f T xs ys r with
      | some (b, c), some (bs, cs) => some (b && bs, ((partD ti xs off).2 ∧ (partD ti ys off).2) ∧ c ∧ cs)
      | _, _ => none
    | none => none
def arrFs (m : Nat) (e : TypeId) (size : Nat) : List (Nat × TypeId) := (List.range' 0 m 1).map fun i => (i * size, e)
def eqD (T : Tbl) : Nat → Option TI → D → D → Option (Bool × Prop)
  | 0, _, _, _ => none
  | n + 1, some ti, x, y => match ti.td, x, y with
    | .int _, .v (.int k a), .v (.int l b) => if k = l then some (a == b, True) else none
    | .bool, .v (.bool a), .v (.bool b) => some (a == b, True)
    | .str, .v (.string a), .v (.string b) => some (a == b, True)
    | .struct fs, .agg xs, .agg ys => eqFs (eqD T n) T xs ys fs
    | .arr m e, .agg xs, .agg ys => match T e with
      | some te => eqFs (eqD T n) T xs ys (arrFs m e te.size)
      | none => none
    | _, _, _ => none
  | _, none, _, _ => none
def isAggD : Option D → Bool
  | some (.agg _) => true
  | _ => false
def aggEq (T : Tbl) (op : BinOp) (t : Option TI) : Option D → Option D → Option (D × Prop)
  | some x, some y => match op, eqD T 10 t x y with
    | .eql, some (b, c) => some (.v (.bool b), c)
    | .neq, some (b, c) => some (.v (.bool !b), c)
    | _, _ => none
  | _, _ => none
def convD (s d : Option TD) : Option D → Option (D × Prop)
  | some (.v x) => (convV s d x).map fun z => (.v z, True)
  | _ => none
def fieldOf (T : Tbl) (s : TypeId) (f : Nat) : Option (Nat × TI) :=
  match T s with
  | some ⟨.struct fs, _, _, _⟩ => match fs[f]? with
    | some (off, ft) => match T ft with
      | some ti => some (off, ti)
      | none => none
    | none => none
  | _ => none
def fieldAddrD (F : Option (Nat × TI)) : Option D → Option (D × Prop)
  | some (.ptr b o) => match F with
    | some (off, ti) => if ti.size = 0 then none else some (.ptr b (o + off), True)
    | none => none
  | some (.rp xs j) => match F with
    | some (off, ti) => if ti.size = 0 then none else some (.rp xs (j + off), True)
    | none => none
  | _ => none
def fieldD (F : Option (Nat × TI)) : Option D → Option (D × Prop)
  | some (.agg xs) => match F with
    | some (off, ti) => some (partD ti xs off)
    | none => none
  | _ => none
def indexAddrD (T : Tbl) (t : Option TI) : Option D → Option D → Option (D × Prop)
  | some (.ro n xs), some (.v (.int _ i)) => match t with
    | some ⟨.slice e, _, _, _⟩ => match T e with
      | some ti => some (.rp xs (i.toNat * ti.size), 0 ≤ i ∧ i < n)
      | none => none
    | _ => none
  | some (.sl b off n _), some (.v (.int _ i)) => match t with
    | some ⟨.slice e, _, _, _⟩ => match T e with
      | some ti => some (.ptr b (off + i.toNat * ti.size), 0 ≤ i ∧ i < n)
      | none => none
    | _ => none
  | some (.ptr b off), some (.v (.int _ i)) => match t with
    | some ⟨.arr m e, _, _, _⟩ => match T e with
      | some ti => some (.ptr b (off + i.toNat * ti.size), 0 ≤ i ∧ i < m)
      | none => none
    | _ => none
  | some (.rp xs j), some (.v (.int _ i)) => match t with
    | some ⟨.arr m e, _, _, _⟩ => match T e with
      | some ti => some (.rp xs (j + i.toNat * ti.size), 0 ≤ i ∧ i < m)
      | none => none
    | _ => none
  | _, _ => none
def indexD (T : Tbl) (t : Option TI) : Option D → Option D → Option (D × Prop)
  | some (.v (.string s)), some (.v (.int _ i)) => match t with
    | some ⟨.str, _, _, _⟩ => some (.v (.int .u8 ((s.data.toList.getD i.toNat 0).toNat : Nat)), 0 ≤ i ∧ i < s.size)
    | _ => none
  | some (.agg xs), some (.v (.int _ i)) => match t with
    | some ⟨.arr m e, _, _, _⟩ => match T e with
      | some ti => let p := partD ti xs (i.toNat * ti.size); some (p.1, (0 ≤ i ∧ i < m) ∧ p.2)
      | none => none
    | _ => none
  | _, _ => none
def cellN : D → Nat
  | .ro n _ => n
  | _ => 0
def cellL : D → List D
  | .ro _ xs => xs
  | _ => []
def IsSl (d : D) : Prop := match d with
  | .ro _ _ => True
  | .v (.slice none 0 0) => True
  | _ => False
theorem cellN_lit (n : Nat) (xs : List D) : cellN (.ro n xs) = n := rfl
theorem cellL_lit (n : Nat) (xs : List D) : cellL (.ro n xs) = xs := rfl
theorem IsSl_lit (n : Nat) (xs : List D) : IsSl (.ro n xs) = True := rfl
theorem rd_isSl {E : Ctx} {d : D} (h : IsSl d) {u : Value} (hr : Rd E d u) : Rd E (.ro (cellN d) (cellL d)) u := by
  unfold IsSl at h
  split at h
  · exact hr
  · simp only [Rd, cellN, cellL] at hr ⊢
    exact ⟨by simp [NamelessL], none, 0, hr, Nat.le_refl _, Nat.zero_le _, fun h => absurd h (Nat.lt_irrefl _)⟩
  · exact h.elim
def cellsZ : List Value → List D → Nat → List D
  | [], _, _ => []
  | .int k _ :: r, xs, off => .v (.int k (cellInt (xs.getD off default))) :: cellsZ r xs (off + 1)
  | .bool _ :: r, xs, off => .v (.bool (cellBool (xs.getD off default))) :: cellsZ r xs (off + 1)
  | .string _ :: r, xs, off => .v (.string (cellStr (xs.getD off default))) :: cellsZ r xs (off + 1)
  | .slice none 0 0 :: r, xs, off => .ro (cellN (xs.getD off default)) (cellL (xs.getD off default)) :: cellsZ r xs (off + 1)
  | _ :: r, xs, off => xs.getD off default :: cellsZ r xs (off + 1)
def cellsZC : List Value → List D → Nat → Prop
  | [], _, _ => True
  | .int k _ :: r, xs, off => IsInt k (xs.getD off default) ∧ cellsZC r xs (off + 1)
  | .bool _ :: r, xs, off => IsBool (xs.getD off default) ∧ cellsZC r xs (off + 1)
  | .string _ :: r, xs, off => IsStr (xs.getD off default) ∧ cellsZC r xs (off + 1)
  | .slice none 0 0 :: r, xs, off => IsSl (xs.getD off default) ∧ cellsZC r xs (off + 1)
  | _ :: r, xs, off => cellsZC r xs (off + 1)
theorem cellsZ_rd {E : Ctx} : ∀ (z : List Value) (xs : List D) (off : Nat) (us : List Value), off + z.length ≤ xs.length → cellsZC z xs off → RdL E ((xs.drop off).take z.length) us → RdL E (cellsZ z xs off) us
  | [], xs, off, us, _, _, h => by simpa [cellsZ] using h
  | u :: r, xs, off, us, hl, hc, h => by
    simp only [List.length_cons] at hl
    have hd : xs.drop off = xs.getD off default :: xs.drop (off + 1) := by
      rw [List.drop_eq_getElem_cons (by omega), List.getD_eq_getElem?_getD, List.getElem?_eq_getElem (by omega)]; rfl
    rw [hd, List.length_cons, List.take_succ_cons] at h
    simp only [RdL] at h
    obtain ⟨x, rest, rfl, ho, hx, hr⟩ := h
    have step : cellsZC r xs (off + 1) → RdL E (cellsZ r xs (off + 1)) rest := fun hc => cellsZ_rd r xs (off + 1) rest (by omega) hc hr
    unfold cellsZC at hc
    unfold cellsZ
    split at hc
    · rename_i heq; cases heq
    all_goals first
      | (rename_i heq; injection heq with h1 h2; subst h1; subst h2; simp only [RdL]; refine ⟨x, rest, rfl, ho, ?_, step hc.2⟩; first | (rw [← hc.1]; exact hx) | exact rd_isSl hc.1 hx)
      | skip
    all_goals
      rename_i h1 h2 h3 h4 h5 h6 heq
      injection heq with g1 g2; subst g1; subst g2
      simp only [RdL]
      exact ⟨x, rest, rfl, ho, hx, step hc⟩
def partC (ti : TI) (xs : List D) (off : Nat) : D × Prop :=
  match ti.td with
  | .struct _ => (.agg (cellsZ ti.zero xs off), off + ti.size ≤ xs.length ∧ cellsZC ti.zero xs off)
  | .arr _ _ => (.agg (cellsZ ti.zero xs off), off + ti.size ≤ xs.length ∧ cellsZC ti.zero xs off)
  | .slice _ => (.ro (cellN (xs.getD off default)) (cellL (xs.getD off default)), off < xs.length ∧ IsSl (xs.getD off default))
  | _ => partD ti xs off
theorem partC_eq {ti : TI} {xs : List D} {off : Nat} (hz : ti.zero.length = ti.size) (hc : (partC ti xs off).2) : (partD ti xs off).2 ∧ ∀ (E : Ctx) (u : Value), Rd E (partD ti xs off).1 u → Rd E (partC ti xs off).1 u := by
  unfold partC at hc ⊢
  cases htd : ti.td <;> simp only [htd] at hc ⊢
  case struct =>
    have hp : partD ti xs off = (.agg ((xs.drop off).take ti.size), off + ti.size ≤ xs.length) := partD_agg (by rw [htd]; rfl)
    rw [hp]
    refine ⟨hc.1, fun E u h => ?_⟩
    simp only [Rd] at h ⊢
    obtain ⟨us, e, h⟩ := h
    exact ⟨us, e, cellsZ_rd _ _ _ _ (by rw [hz]; exact hc.1) hc.2 (by rw [hz]; exact h)⟩
  case arr =>
    have hp : partD ti xs off = (.agg ((xs.drop off).take ti.size), off + ti.size ≤ xs.length) := partD_agg (by rw [htd]; rfl)
    rw [hp]
    refine ⟨hc.1, fun E u h => ?_⟩
    simp only [Rd] at h ⊢
    obtain ⟨us, e, h⟩ := h
    exact ⟨us, e, cellsZ_rd _ _ _ _ (by rw [hz]; exact hc.1) hc.2 (by rw [hz]; exact h)⟩
  case slice e =>
    have hp : partD ti xs off = (xs.getD off default, off < xs.length) := by unfold partD; rw [htd]
    rw [hp]
    exact ⟨hc.1, fun E u h => rd_isSl hc.2 h⟩
  all_goals exact ⟨hc, fun _ _ h => h⟩
def loadP (t : Option TI) : Option D → Option (D × Prop)
  | some (.rp xs j) => match t with
    | some ti => some (partC ti xs j)
    | none => none
  | _ => none
def extractD (i : Nat) : Option D → Option (D × Prop)
  | some (.tup xs) => match xs[i]? with
    | some d => some (d, True)
    | none => none
  | _ => none
def intO (env : Env) : Option Operand → Option (Option Int)
  | none => some none
  | some x => match opnd env x with
    | some (.v (.int _ i)) => some (some i)
    | _ => none
def hiN (n : Nat) : Option Int → Nat
  | none => n
  | some j => j.toNat
def loN : Option Int → Nat
  | none => 0
  | some j => j.toNat
def sliceC (n : Nat) (lo hi mx : Option Int) : Prop :=
  (match lo with | none => True | some i => 0 ≤ i ∧ i ≤ hiN n hi) ∧
  (match hi with | none => True | some j => 0 ≤ j ∧ j ≤ hiN n mx) ∧
  (match mx with | none => True | some m => 0 ≤ m ∧ m ≤ n ∧ hi.isSome = true)
def segD (es : Nat) (xs : List D) (n : Nat) (lo hi : Option Int) : List D :=
  match lo, hi with
  | none, none => xs
  | none, some h => xs.take (h.toNat * es)
  | some l, none => xs.drop (l.toNat * es)
  | some l, some h => (xs.drop (l.toNat * es)).take ((h.toNat - l.toNat) * es)
def capD (n : Nat) (lo mx : Option Int) : Cap → Cap
  | .exact c es => .exact ((match mx with | none => c | some m => m.toNat) - loN lo) es
  | .toEnd es => match mx with
    | none => .toEnd es
    | some m => .exact (m.toNat - loN lo) es
def sliceD (T : Tbl) (t : Option TI) (lo hi mx : Option (Option Int)) : Option D → Option (D × Prop)
  | some (.ro n xs) => match t, lo, hi, mx with
    | some ⟨.slice e, _, _, _⟩, some lo, some hi, some mx => match T e with
      | some ti => some (.ro (hiN n hi - loN lo) (segD ti.size xs n lo hi), sliceC n lo hi mx)
      | none => none
    | _, _, _, _ => none
  | some (.sl b off n c) => match t, lo, hi, mx with
    | some ⟨.slice e, _, _, _⟩, some lo, some hi, some mx => match T e with
      | some ti => some (.sl b (off + loN lo * ti.size) (hiN n hi - loN lo) (capD n lo mx c), sliceC n lo hi mx ∧ (match c with | .exact _ es => es = ti.size | .toEnd es => es = ti.size))
      | none => none
    | _, _, _, _ => none
  | some (.ptr b off) => match t, lo, hi, mx with
    | some ⟨.arr m e, _, _, _⟩, some lo, some hi, some none => match T e with
      | some ti => some (.sl b (off + loN lo * ti.size) (hiN m hi - loN lo) (.exact (m - loN lo) ti.size), sliceC m lo hi none ∧ m ≤ maxLen)
      | none => none
    | _, _, _, _ => none
  | some (.v (.string s)) => match t, lo, hi, mx with
    | some ⟨.str, _, _, _⟩, some lo, some hi, some none => some (.v (.string (s.extract (loN lo) (hiN s.size hi))), sliceC s.size lo hi none)
    | _, _, _, _ => none
  | some (.v (.slice none 0 0)) => match t, lo, hi, mx with
    | some ⟨.slice e, _, _, _⟩, some lo, some hi, some mx => match T e with
      | some ti => some (.v (.slice none 0 0), sliceC 0 lo hi mx)
      | none => none
    | _, _, _, _ => none
  | _ => none
def cellsD : D → Option (List D)
  | .v z => if z.oneCell' then some [.v z] else none
  | .agg xs => some xs
  | .tup _ => none
  | d => some [d]
def setAll (cs : List D) (off : Nat) : List D → List D
  | [] => cs
  | y :: ys => setAll (cs.set off y) (off + 1) ys
def fillD (place : Nat → Option (Nat × Nat)) (env : Env) (cs : List D) : List (Nat × Operand) → Option (List D)
  | [] => some cs
  | (i, x) :: rest =>
    match place i, (opnd env x).bind cellsD with
    | some (off, size), some ys => if ys.length = size ∧ off + size ≤ cs.length then fillD place env (setAll cs off ys) rest else none
    | _, _ => none
def placeD (T : Tbl) (fs : List (Nat × TypeId)) (i : Nat) : Option (Nat × Nat) :=
  match fs[i]? with
  | some (off, ft) => match T ft with
    | some ti => some (off, ti.size)
    | none => none
  | none => none
def buildD (T : Tbl) (env : Env) (t : Option TI) (parts : List (Nat × Operand)) : Option (D × Prop) :=
  match t with
  | some ⟨.struct fs, _, _, zero⟩ => if fs.all (fun p => (T p.2).isSome) then (fillD (placeD T fs) env (zero.map .v) parts).map fun cs => (.agg cs, True) else none
  | some ⟨.arr n e, _, _, zero⟩ => match T e with
    | some ti => (fillD (fun i => some (i * ti.size, ti.size)) env (zero.map .v) parts).map fun cs => (.agg cs, True)
    | none => none
  | _ => none
def lenD (t : Option TI) : Option D → Option (D × Prop)
  | some (.ro n _) => match t with
    | some ⟨.slice _, _, _, _⟩ => some (.v (.int .i64 (n : Nat)), True)
    | _ => none
  | some (.sl _ _ n _) => match t with
    | some ⟨.slice _, _, _, _⟩ => some (.v (.int .i64 (n : Nat)), True)
    | _ => none
  | some (.v (.string s)) => match t with
    | some ⟨.str, _, _, _⟩ => some (.v (.int .i64 (s.size : Nat)), True)
    | _ => none
  | some (.v (.slice none n c)) => match t with
    | some ⟨.slice _, _, _, _⟩ => some (.v (.int .i64 (n : Nat)), True)
    | _ => none
  | _ => none
def capV (t : Option TI) : Option D → Option (D × Prop)
  | some (.sl _ _ _ (.exact c _)) => match t with
    | some ⟨.slice _, _, _, _⟩ => some (.v (.int .i64 (c : Nat)), True)
    | _ => none
  | some (.v (.slice none n c)) => match t with
    | some ⟨.slice _, _, _, _⟩ => some (.v (.int .i64 (c : Nat)), True)
    | _ => none
  | _ => none
def mm2 (isMax : Bool) : Option D → Option D → Option (D × Prop)
  | some (.v (.int k x)), some (.v (.int l y)) => if k = l then some (.v (.int k (if isMax then max x y else min x y)), True) else none
  | _, _ => none
def getAll (env : Env) : List Operand → Option (List D)
  | [] => some []
  | x :: r => match opnd env x, getAll env r with
    | some d, some ds => some (d :: ds)
    | _, _ => none
def mmL (isMax : Bool) : D → List D → Option (D × Prop)
  | d, [] => some (d, True)
  | d, e :: r => match mm2 isMax (some d) (some e) with
    | some (f, _) => mmL isMax f r
    | none => none
def mmA (isMax : Bool) : Option (List D) → Option (D × Prop)
  | some (d :: ds) => mmL isMax d ds
  | _ => none
def callB (T : Tbl) (env : Env) (b : Builtin) (args : List Operand) (ts : List TypeId) : Option (D × Prop) :=
  match b, args, ts with
  | .len, [x], [t] => lenD (T t) (opnd env x)
  | .cap, [x], [t] => capV (T t) (opnd env x)
  | .max, [x, y], _ => mm2 true (opnd env x) (opnd env y)
  | .min, [x, y], _ => mm2 false (opnd env x) (opnd env y)
  | .max, x :: y :: z :: r, _ => mmA true (getAll env (x :: y :: z :: r))
  | .min, x :: y :: z :: r, _ => mmA false (getAll env (x :: y :: z :: r))
  | _, _, _ => none
def ifcD (xt : TypeId) (t : Option TI) : Option D → Option (D × Prop)
  | some d => match t with
    | some ti => if ti.td = .other then none else some (.ifc xt d, True)
    | none => none
  | none => none
def nilCheckD : Option D → Option (D × Prop)
  | some (.ptr b o) => some (.ptr b o, True)
  | some (.rp xs j) => some (.rp xs j, True)
  | _ => none
def funcD (env : Env) (fn : Fn) (first : List Operand) (caps : List Operand) : Option (D × Prop) :=
  match fn with
  | .func f => (getAll env (first ++ caps)).map fun ds => (.fn f first.length ds, True)
  | _ => none
def argsOf (k : Nat) (caps ds : List D) : List D := caps.take k ++ (ds ++ caps.drop k)
theorem RdT.split {E : Ctx} : ∀ (us1 us2 : List Value) (ds : List D), RdT E ds (us1 ++ us2) → RdT E (ds.take us1.length) us1 ∧ RdT E (ds.drop us1.length) us2
  | [], us2, ds, h => by simpa [RdT] using h
  | u :: us1, us2, [], h => by simp [RdT] at h
  | u :: us1, us2, d :: ds, h => by
    simp only [RdT, List.cons_append, List.cons.injEq] at h
    obtain ⟨_, _, ⟨rfl, rfl⟩, h1, h2⟩ := h
    have := RdT.split us1 us2 ds h2
    refine ⟨?_, by simpa using this.2⟩
    simp only [List.length_cons, List.take_succ_cons, RdT]
    exact ⟨u, us1, rfl, h1, this.1⟩
theorem RdT.app {E : Ctx} : ∀ (ds : List D) (us : List Value) (ds' : List D) (us' : List Value), RdT E ds us → RdT E ds' us' → RdT E (ds ++ ds') (us ++ us')
  | [], us, ds', us', hr, hr' => by simp only [RdT] at hr; subst hr; simpa using hr'
  | d :: ds, us, ds', us', hr, hr' => by
    simp only [RdT] at hr
    obtain ⟨u, r, e, hd, hr⟩ := hr
    subst e
    simp only [List.cons_append, RdT]
    exact ⟨u, r ++ us', rfl, hd, RdT.app ds r ds' us' hr hr'⟩
theorem RdT.argsOf {E : Ctx} {k : Nat} {caps ds : List D} {fs us : Array Value} {vs : List Value} (hk : fs.size = k) (h : RdT E caps (fs.toList ++ us.toList)) (hd : RdT E ds vs) : RdT E (argsOf k caps ds) (fs.toList ++ (vs ++ us.toList)) := by
  have := RdT.split _ _ _ h
  rw [Array.length_toList, hk] at this
  exact RdT.app _ _ _ _ this.1 (RdT.app _ _ _ _ hd this.2)
def opP (T : Tbl) (env : Env) : Op → Option (D × Prop)
  | .move x => (opnd env x).map fun d => (d, True)
  | .assign x => (opnd env x).map fun d => (d, True)
  | .pick c a b => pickD (opnd env c) (opnd env a) (opnd env b)
  | .unOp op _ x => unD op (opnd env x)
  | .binOp op t x y _ => bif isAggD (opnd env x) then aggEq T op (T t) (opnd env x) (opnd env y) else binD ((T t).map (·.td)) op (opnd env x) (opnd env y)
  | .convert s d x => convD ((T s).map (·.td)) ((T d).map (·.td)) (opnd env x)
  | .fieldAddr s x f => fieldAddrD (fieldOf T s f) (opnd env x)
  | .field s x f => fieldD (fieldOf T s f) (opnd env x)
  | .indexAddr t x i => indexAddrD T (T t) (opnd env x) (opnd env i)
  | .index t x i => indexD T (T t) (opnd env x) (opnd env i)
  | .load t x => loadP (T t) (opnd env x)
  | .extract x i => extractD i (opnd env x)
  | .slice t x lo hi mx => sliceD T (T t) (intO env lo) (intO env hi) (intO env mx) (opnd env x)
  | .build t parts => buildD T env (T t) parts.toList
  | .makeInterface t x => ifcD t (T t) (opnd env x)
  | .makeFunc fn first caps => funcD env fn first.toList caps.toList
  | .nilCheck x => nilCheckD (opnd env x)
  | .call { callee := .builtin b, args, argTypes } => callB T env b args.toList argTypes.toList
  | _ => none
end Go.VD
end
section
namespace Go.VD
set_option linter.unusedVariables false
set_option linter.unusedSimpArgs false
section
variable {P : Program} {T : Tbl} (hT : TblOk P T) {E : Ctx}
theorem RdL.ofExtract {ds : List D} {us : Array Value} (h : RdL E ds us.toList) (off n : Nat) : RdL E ((ds.drop off).take n) (us.extract off (off + n)).toList := by
  have : (us.extract off (off + n)).toList = (us.toList.drop off).take n := by
    simp [Array.toList_extract, List.extract_eq_take_drop]
  rw [this]
  exact (h.drop off).take n
theorem part_sound {t : TypeId} {ti : TI} (ht : TiOk P t ti) {xs : List D} {us : Array Value} (h : RdL E xs us.toList) {off : Nat} (hc : (partD ti xs off).2) (w : World) :
    ∃ v, (part t us off).run P w = .ok v w ∧ Rd E (partD ti xs off).1 v := by
  simp only [part, Sem.run_bind, ht.run_isAgg, Result.andThen_ok]
  cases hagg : ti.td.isAgg with
  | true =>
    rw [partD_agg hagg] at hc ⊢
    simp only [if_true, Sem.run_bind, ht.run_size, Result.andThen_ok, Sem.run_pure]
    refine ⟨_, rfl, ?_⟩
    simp only [Rd]
    exact ⟨_, rfl, h.ofExtract off ti.size⟩
  | false =>
    obtain ⟨hc, he⟩ := partD_one hagg hc
    rw [he]
    simp only [Bool.false_eq_true, if_false]
    have hl := h.length
    obtain ⟨u, hu, ho, hd⟩ := h.get xs us.toList off xs[off] (List.getElem?_eq_getElem hc)
    have hu' : us[off]? = some u := by simpa using hu
    simp only [hu']
    refine ⟨u, rfl, ?_⟩
    rw [List.getD_eq_getElem?_getD, List.getElem?_eq_getElem hc]
    exact hd
theorem RdAt.part {xs : List D} {ad : Addr} (h : RdAt E xs ad 0) {t : TypeId} {ti : TI} (ht : TiOk P t ti) {j : Nat} (hc : (partD ti xs j).2) :
    ∃ v, (loadVar t (ad.add j)).run P E.w = .ok v E.w ∧ Rd E (partD ti xs j).1 v := by
  simp only [loadVar, Sem.run_bind, ht.run_isAgg, Result.andThen_ok]
  cases hagg : ti.td.isAgg with
  | true =>
    rw [partD_agg hagg] at hc ⊢
    simp only [if_true, Sem.run_bind, ht.run_size, Result.andThen_ok]
    obtain ⟨us, h1, h2⟩ := RdAt.list _ _ _ ((h.drop j).take ti.size)
    have hl := h1.length
    have hl' : us.length = ti.size := by rw [hl]; simp at hc ⊢; omega
    have := run_loadCells_list (P := P) (w := E.w) (ad.add j) us (fun i v hv => by have := h2 i v hv; simpa using this)
    rw [hl'] at this
    simp only [this, Result.andThen_ok, Sem.run_pure]
    refine ⟨_, rfl, ?_⟩
    simp only [Rd]
    exact ⟨_, rfl, by simpa using h1⟩
  | false =>
    obtain ⟨hc, he⟩ := partD_one hagg hc
    rw [he]
    simp only [Bool.false_eq_true, if_false]
    obtain ⟨u, hu, ho, hd⟩ := RdAt.get _ _ _ h j xs[j] (List.getElem?_eq_getElem hc)
    rw [Nat.zero_add] at hu
    refine ⟨u, by simp [hu], ?_⟩
    rw [List.getD_eq_getElem?_getD, List.getElem?_eq_getElem hc]
    exact hd
include hT
theorem fieldOf_spec {s : TypeId} {f off : Nat} {ti : TI} (h : fieldOf T s f = some (off, ti)) :
    ∃ F fd, P.underlying s = some (.struct F) ∧ F[f]? = some fd ∧ fd.offset = off ∧ TiOk P fd.type ti := by
  unfold fieldOf at h
  split at h
  · rename_i fs a b c hs
    split at h
    · rename_i o ft hf
      split at h
      · rename_i ti' hft
        injection h with h; injection h with h1 h2
        subst h1; subst h2
        obtain ⟨F, hF, hm⟩ := (hT.ok s _ hs).struct rfl
        rw [← hm] at hf
        simp only [List.getElem?_map, Array.getElem?_toList] at hf
        cases hF' : F[f]? with
        | none => simp [hF'] at hf
        | some fd =>
          simp [hF'] at hf
          exact ⟨F, fd, hF, hF', hf.1, hf.2 ▸ hT.ok ft _ hft⟩
      · cases h
    · cases h
  · cases h
theorem fieldAddr_sound {s : TypeId} {f : Nat} {dx : Option D} {d : D} {c : Prop} (h : fieldAddrD (fieldOf T s f) dx = some (d, c)) (hc : c) {x : Value} (hx : ∀ d', dx = some d' → Rd E d' x) (w : World) :
    ∃ v, (Instr.fieldAt s x f).run P w = .ok v w ∧ Rd E d v := by
  have main : ∀ (off : Nat) (ti : TI) (a : Addr), fieldOf T s f = some (off, ti) → ti.size ≠ 0 → (Instr.fieldAt s (.pointer (some a)) f).run P w = .ok (.pointer (some (a.add off))) w := by
    intro off ti a hF hsz
    obtain ⟨F, fd, h1, h2, h3, h4⟩ := fieldOf_spec hT hF
    simp [Instr.fieldAt, run_underlying h1, h2, Instr.sureAddr, fieldPlace, h4.run_size, hsz, h3]
  unfold fieldAddrD at h
  split at h
  · rename_i b o
    split at h
    · rename_i off ti hF
      split at h
      · cases h
      · rename_i hsz
        obtain ⟨rfl, rfl⟩ := pair_inj h
        have hr := hx _ rfl
        simp only [Rd] at hr
        obtain ⟨hb, rfl⟩ := hr
        refine ⟨_, main off ti _ hF hsz, ?_⟩
        simp only [Rd]
        refine ⟨hb, ?_⟩
        unfold Addr.add; split
        · rename_i h0; subst h0; rfl
        · rfl
    · cases h
  · rename_i xs j
    split at h
    · rename_i off ti hF
      split at h
      · cases h
      · rename_i hsz
        obtain ⟨rfl, rfl⟩ := pair_inj h
        have hr := hx _ rfl
        simp only [Rd] at hr
        obtain ⟨hnl, ad, rfl, hs, ha⟩ := hr
        refine ⟨_, main off ti _ hF hsz, ?_⟩
        simp only [Rd]
        exact ⟨hnl, ad, by rw [add_add], hs, ha⟩
    · cases h
  · cases h
theorem field_sound {s : TypeId} {f : Nat} {dx : Option D} {d : D} {c : Prop} (h : fieldD (fieldOf T s f) dx = some (d, c)) (hc : c) {x : Value} (hx : ∀ d', dx = some d' → Rd E d' x) (w : World) :
    ∃ v, (Instr.field s x f).run P w = .ok v w ∧ Rd E d v := by
  unfold fieldD at h
  split at h
  · rename_i xs
    split at h
    · rename_i off ti hF
      injection h with h
      have hr := hx _ rfl
      simp only [Rd] at hr
      obtain ⟨us, rfl, hl⟩ := hr
      obtain ⟨F, fd, h1, h2, h3, h4⟩ := fieldOf_spec hT hF
      have hc' : (partD ti xs off).2 := by rw [h]; exact hc
      obtain ⟨v, hv, hd⟩ := part_sound h4 hl hc' w
      rw [h] at hd
      refine ⟨v, ?_, hd⟩
      simp [Instr.field, run_underlying h1, h2, asAgg, h3, hv]
    · cases h
  · cases h
theorem indexAddr_sound {t : TypeId} {dx di : Option D} {d : D} {c : Prop} (h : indexAddrD T (T t) dx di = some (d, c)) (hc : c) {x i : Value} (hx : ∀ d', dx = some d' → Rd E d' x) (hi : ∀ d', di = some d' → Rd E d' i) (w : World) :
    ∃ v, (Instr.indexAt t x i).run P w = .ok v w ∧ Rd E d v := by
  unfold indexAddrD at h
  split at h
  · rename_i n xs k z
    split at h
    · rename_i e _ _ _ ht
      split at h
      · rename_i ti hte
        obtain ⟨rfl, rfl⟩ := pair_inj h
        have hr := hx _ rfl
        have hiv := hi _ rfl
        simp only [Rd] at hr hiv
        subst hiv
        obtain ⟨hnl, A, cp, rfl, h1, h2, h3⟩ := hr
        obtain ⟨ad, rfl, hs, ha⟩ := h3 (by omega)
        refine ⟨.pointer (some (ad.add (z.toNat * ti.size))), ?_, ?_⟩
        · simp [Instr.indexAt, run_underlying ((hT.ok t _ ht).slice rfl), asIntOf, hc, (hT.ok e _ hte).run_size]
        · simp only [Rd]; exact ⟨hnl, ad, rfl, hs, ha⟩
      · cases h
    · cases h
  · rename_i b off n cp k z
    split at h
    · rename_i e _ _ _ ht
      split at h
      · rename_i ti hte
        obtain ⟨rfl, rfl⟩ := pair_inj h
        have hr := hx _ rfl
        have hiv := hi _ rfl
        simp only [Rd] at hiv
        subst hiv
        have : b < E.H.length ∧ ∃ A c, x = .slice A n c ∧ n ≤ c ∧ (0 < c → A = some ⟨(E.ρ b).1, off, none⟩) := by
          cases cp with
          | exact c _ => simp only [Rd] at hr; obtain ⟨h1, h2, h3, A, h4, h5⟩ := hr; exact ⟨h1, A, c, h4, h2, h5⟩
          | toEnd es => simp only [Rd] at hr; obtain ⟨h1, A, c, h4, h2, h3, _, h5⟩ := hr; exact ⟨h1, A, c, h4, h2, h5⟩
        obtain ⟨hb, A, c, rfl, hnc, hA⟩ := this
        have hA := hA (by omega)
        subst hA
        refine ⟨.pointer (some ((⟨(E.ρ b).1, off, none⟩ : Addr).add (z.toNat * ti.size))), ?_, ?_⟩
        · simp [Instr.indexAt, run_underlying ((hT.ok t _ ht).slice rfl), asIntOf, hc, (hT.ok e _ hte).run_size]
        · simp only [Rd]
          refine ⟨hb, ?_⟩
          unfold Addr.add; split
          · rename_i h0; rw [h0]; rfl
          · rfl
      · cases h
    · cases h
  · rename_i b off k z
    split at h
    · rename_i m e _ _ _ ht
      split at h
      · rename_i ti hte
        obtain ⟨rfl, rfl⟩ := pair_inj h
        have hr := hx _ rfl
        have hiv := hi _ rfl
        simp only [Rd] at hiv hr
        subst hiv
        obtain ⟨hb, rfl⟩ := hr
        refine ⟨.pointer (some ((⟨(E.ρ b).1, off, none⟩ : Addr).add (z.toNat * ti.size))), ?_, ?_⟩
        · simp [Instr.indexAt, run_underlying ((hT.ok t _ ht).arr rfl), asIntOf, hc, (hT.ok e _ hte).run_size, Instr.sureAddr]
        · simp only [Rd]
          refine ⟨hb, ?_⟩
          unfold Addr.add; split
          · rename_i h0; rw [h0]; rfl
          · rfl
      · cases h
    · cases h
  · rename_i xs j k z
    split at h
    · rename_i m e _ _ _ ht
      split at h
      · rename_i ti hte
        obtain ⟨rfl, rfl⟩ := pair_inj h
        have hr := hx _ rfl
        have hiv := hi _ rfl
        simp only [Rd] at hiv hr
        subst hiv
        obtain ⟨hnl, ad, rfl, hs, ha⟩ := hr
        refine ⟨.pointer (some ((ad.add j).add (z.toNat * ti.size))), ?_, ?_⟩
        · simp [Instr.indexAt, run_underlying ((hT.ok t _ ht).arr rfl), asIntOf, hc, (hT.ok e _ hte).run_size, Instr.sureAddr]
        · simp only [Rd]
          exact ⟨hnl, ad, by rw [add_add], hs, ha⟩
      · cases h
    · cases h
  · cases h
theorem index_sound {t : TypeId} {dx di : Option D} {d : D} {c : Prop} (h : indexD T (T t) dx di = some (d, c)) (hc : c) {x i : Value} (hx : ∀ d', dx = some d' → Rd E d' x) (hi : ∀ d', di = some d' → Rd E d' i) (w : World) :
    ∃ v, (Instr.index t x i).run P w = .ok v w ∧ Rd E d v := by
  unfold indexD at h
  split at h
  · rename_i s k z
    split at h
    · rename_i ht
      obtain ⟨rfl, rfl⟩ := pair_inj h
      have hr := hx _ rfl
      have hiv := hi _ rfl
      simp only [Rd] at hiv hr
      subst hiv; subst hr
      have hlt : z.toNat < s.size := by omega
      have hb : s[z.toNat]? = some s[z.toNat] := by
        simp [hlt]
      refine ⟨.int .u8 (s[z.toNat].toNat : Nat), ?_, ?_⟩
      · simp only [Instr.index, asIntOf, Sem.run_bind, Sem.run_pure, Result.andThen_ok, run_underlying ((hT.ok t _ ht).str rfl)]
        rw [if_pos hc.1, hb]; rfl
      · simp only [Rd]
        have : s.data.toList.getD z.toNat 0 = s[z.toNat] := by
          rw [List.getD_eq_getElem?_getD]
          have : s.data.toList[z.toNat]? = some s[z.toNat] := by
            rw [Array.getElem?_toList]
            exact Array.getElem?_eq_getElem (by simpa using hlt)
          rw [this]; rfl
        rw [this]
    · cases h
  · rename_i xs k z
    split at h
    · rename_i m e _ _ _ ht
      split at h
      · rename_i ti hte
        obtain ⟨rfl, rfl⟩ := pair_inj h
        have hr := hx _ rfl
        have hiv := hi _ rfl
        simp only [Rd] at hiv hr
        subst hiv
        obtain ⟨us, rfl, hl⟩ := hr
        obtain ⟨v, hv, hd⟩ := part_sound (hT.ok e _ hte) hl hc.2 w
        refine ⟨v, ?_, hd⟩
        simp only [Instr.index, asIntOf, Sem.run_bind, Sem.run_pure, Result.andThen_ok, run_underlying ((hT.ok t _ ht).arr rfl)]
        rw [if_pos hc.1]
        simp only [Sem.run_bind, (hT.ok e _ hte).run_size, Result.andThen_ok]
        exact hv
      · cases h
    · cases h
  · cases h
theorem load_sound {t : TypeId} {dx : Option D} {d : D} {c : Prop} (h : loadP (T t) dx = some (d, c)) (hc : c) {x : Value} (hx : ∀ d', dx = some d' → Rd E d' x) :
    ∃ v, (Instr.loadAt t x).run P E.w = .ok v E.w ∧ Rd E d v := by
  unfold loadP at h
  split at h
  · rename_i xs j
    split at h
    · rename_i ti ht
      injection h with h
      have hr := hx _ rfl
      simp only [Rd] at hr
      obtain ⟨hnl, ad, rfl, hs, ha⟩ := hr
      have hc0 : (partC ti xs j).2 := by rw [h]; exact hc
      obtain ⟨hc', he⟩ := partC_eq (hT.ok t _ ht).len hc0
      obtain ⟨v, hv, hd⟩ := ha.part (hT.ok t _ ht) hc'
      have hd := he _ _ hd
      rw [h] at hd
      exact ⟨v, by simp [Instr.loadAt, Instr.sureAddr, hv], hd⟩
    · cases h
  · cases h
omit hT in
theorem extract_sound {i : Nat} {dx : Option D} {d : D} {c : Prop} (h : extractD i dx = some (d, c)) {x : Value} (hx : ∀ d', dx = some d' → Rd E d' x) (w : World) :
    ∃ v, (Instr.extract x i).run P w = .ok v w ∧ Rd E d v := by
  have getT : ∀ (ds : List D) (us : List Value) (i : Nat) (d : D), RdT E ds us → ds[i]? = some d → ∃ u, us[i]? = some u ∧ Rd E d u := by
    intro ds
    induction ds with
    | nil => intro us i d _ h; simp at h
    | cons d' ds ih =>
      intro us i d hr hi
      simp only [RdT] at hr
      obtain ⟨u, r, rfl, hd, hr⟩ := hr
      cases i with
      | zero => simp at hi; subst hi; exact ⟨u, by simp, hd⟩
      | succ i => simpa using ih r i d hr (by simpa using hi)
  unfold extractD at h
  split at h
  · rename_i xs
    split at h
    · rename_i d' hd'
      obtain ⟨rfl, rfl⟩ := pair_inj h
      have hr := hx _ rfl
      simp only [Rd] at hr
      obtain ⟨us, rfl, ht⟩ := hr
      obtain ⟨u, hu, hd⟩ := getT _ _ _ _ ht hd'
      have hu' : us[i]? = some u := by simpa using hu
      exact ⟨u, by simp [Instr.extract, hu'], hd⟩
    · cases h
  · cases h
end
end Go.VD
end
section
namespace Go.VD
set_option linter.unusedVariables false
set_option linter.unusedSimpArgs false
section
variable {P : Program} {T : Tbl} (hT : TblOk P T) {E : Ctx}
theorem hiN_none (n : Nat) : hiN n none = n := rfl
theorem hiN_some (n : Nat) (j : Int) : hiN n (some j) = j.toNat := rfl
def BoundV : Option Int → Option Value → Prop
  | none, none => True
  | some i, some v => ∃ k, v = .int k i
  | _, _ => False
theorem run_bounds {isSlice : Bool} {n cap : Nat} {lo hi mx : Option Int} {lv hv mv : Option Value} (h1 : BoundV lo lv) (h2 : BoundV hi hv) (h3 : BoundV mx mv) (hc : sliceC n lo hi mx) (hn : n ≤ cap) (w : World) :
    (Instr.sliceBounds isSlice n cap lv hv mv).run P w = .ok (loN lo, hiN n hi, hiN cap mx) w ∧ loN lo ≤ hiN n hi ∧ hiN n hi ≤ hiN n mx ∧ hiN n mx ≤ n := by
  obtain ⟨c1, c2, c3⟩ := hc
  have b : ∀ (i : Int) (k : IntKind) (y : Nat) (code : BoundsCode), 0 ≤ i → i ≤ y → (Instr.sliceBound (.int k i) y code).run P w = .ok i.toNat w := by
    intro i k y code h0 h1
    simp [Instr.sliceBound, asIntOf, h0, h1]
  cases lo <;> cases lv <;> simp only [BoundV] at h1 <;> cases hi <;> cases hv <;> simp only [BoundV] at h2 <;> cases mx <;> cases mv <;> simp only [BoundV] at h3
  all_goals simp only [hiN, loN, Option.isSome, reduceCtorEq, and_false] at c1 c2 c3 ⊢
  all_goals (try obtain ⟨_, rfl⟩ := h1)
  all_goals (try obtain ⟨_, rfl⟩ := h2)
  all_goals (try obtain ⟨_, rfl⟩ := h3)
  all_goals refine ⟨?_, by omega, by omega, by omega⟩
  all_goals simp only [Instr.sliceBounds, Sem.run_bind, Sem.run_pure, Result.andThen_ok]
  all_goals (try rw [b _ _ _ _ (by omega) (by omega)])
  all_goals simp only [Result.andThen_ok, Sem.run_pure, Sem.run_bind]
  all_goals (try rw [b _ _ _ _ (by omega) (by omega)])
  all_goals simp only [Result.andThen_ok, Sem.run_pure, Sem.run_bind]
  all_goals (try rw [b _ _ _ _ (by omega) (by omega)])
  all_goals simp only [Result.andThen_ok, Sem.run_pure, Sem.run_bind]
theorem segD_at {xs : List D} {ad : Addr} (h : RdAt E xs ad 0) (es n : Nat) (lo hi : Option Int) : RdAt E (segD es xs n lo hi) (ad.add (loN lo * es)) 0 := by
  cases lo <;> cases hi <;> simp only [segD, loN, Nat.zero_mul]
  · simpa [Addr.add] using h
  · have := h.take (Int.toNat ‹Int› * es); simpa [Addr.add] using this
  · exact h.drop _
  · exact (h.drop _).take _
theorem segD_nameless {xs : List D} (h : NamelessL xs) (es n : Nat) (lo hi : Option Int) : NamelessL (segD es xs n lo hi) := by
  cases lo <;> cases hi <;> simp only [segD]
  · exact h
  · exact h.take _
  · exact h.drop _
  · exact (h.drop _).take _
include hT
theorem slice_sound {t : TypeId} {lo hi mx : Option (Option Int)} {lv hv mv : Option Value} {dx : Option D} {d : D} {c : Prop} (h : sliceD T (T t) lo hi mx dx = some (d, c)) (hc : c)
    {x : Value} (hx : ∀ d', dx = some d' → Rd E d' x) (h1 : ∀ b, lo = some b → BoundV b lv) (h2 : ∀ b, hi = some b → BoundV b hv) (h3 : ∀ b, mx = some b → BoundV b mv) (w : World) :
    ∃ v, (Instr.sliceAt t x lv hv mv).run P w = .ok v w ∧ Rd E d v := by
  unfold sliceD at h
  split at h
  · rename_i n xs
    split at h
    · rename_i e _ _ _ lo hi mx ht
      split at h
      · rename_i ti hte
        obtain ⟨rfl, rfl⟩ := pair_inj h
        have hr := hx _ rfl
        simp only [Rd] at hr
        obtain ⟨hnl, A, cp, rfl, hn, hm, hA⟩ := hr
        obtain ⟨hb, e1, e2, e3⟩ := run_bounds (P := P) (isSlice := true) (h1 _ rfl) (h2 _ rfl) (h3 _ rfl) hc hn w
        have hu := run_underlying ((hT.ok t _ ht).slice rfl) w
        refine ⟨_, by
          simp only [Instr.sliceAt, Instr.slice, Sem.run_bind, hu, Result.andThen_ok, hb, (hT.ok e _ hte).run_size, Sem.run_pure]; rfl, ?_⟩
        simp only [Rd]
        refine ⟨segD_nameless hnl _ _ _ _, _, _, rfl, ?_, ?_, fun hlt => ?_⟩
        · cases mx <;> simp only [hiN_none, hiN_some] at e2 e3 ⊢ <;> omega
        · cases mx <;> simp only [hiN_none, hiN_some] at e2 e3 ⊢ <;> omega
        · have h0 : 0 < n := by omega
          obtain ⟨ad, rfl, hs, ha⟩ := hA h0
          have hne : ¬ hiN cp mx = loN lo := by cases mx <;> simp only [hiN_none, hiN_some] at e2 e3 ⊢ <;> omega
          rw [if_neg hne]
          exact ⟨_, rfl, by rw [block_add]; exact hs, segD_at ha _ _ _ _⟩
      · cases h
    · cases h
  · rename_i b off n cp
    split at h
    · rename_i e _ _ _ lo hi mx ht
      split at h
      · rename_i ti hte
        obtain ⟨rfl, rfl⟩ := pair_inj h
        obtain ⟨hcs, hes⟩ := hc
        have hr := hx _ rfl
        have hu := run_underlying ((hT.ok t _ ht).slice rfl) w
        have key : b < E.H.length ∧ ∃ A cap, x = .slice A n cap ∧ n ≤ cap ∧ cap ≤ maxLen ∧ (0 < cap → A = some ⟨(E.ρ b).1, off, none⟩) ∧ (match cp with | .exact c _ => cap = c | .toEnd es => off + cap * es = (E.ρ b).2) := by
          cases cp with
          | exact c _ => simp only [Rd] at hr; obtain ⟨h1, h2, h3, A, h4, h5⟩ := hr; exact ⟨h1, A, c, h4, h2, h3, h5, rfl⟩
          | toEnd es => simp only [Rd] at hr; obtain ⟨h1, A, c, h4, h2, h3, h6, h5⟩ := hr; exact ⟨h1, A, c, h4, h2, h3, h5, h6⟩
        obtain ⟨hb, A, cap, rfl, hn, hm, hA, hcap⟩ := key
        obtain ⟨hbd, e1, e2, e3⟩ := run_bounds (P := P) (isSlice := true) (h1 _ rfl) (h2 _ rfl) (h3 _ rfl) hcs hn w
        refine ⟨_, by
          simp only [Instr.sliceAt, Instr.slice, Sem.run_bind, hu, Result.andThen_ok, hbd, (hT.ok e _ hte).run_size, Sem.run_pure]; rfl, ?_⟩
        have haddr : ∀ m, loN lo ≤ m → m ≤ cap → 0 < m - loN lo → (if m = loN lo then A else A.map (·.add (loN lo * ti.size))) = some ⟨(E.ρ b).1, off + loN lo * ti.size, none⟩ := by
          intro m hm1 hm2 hm3
          rw [if_neg (by omega), hA (by omega)]
          simp only [Option.map_some]
          unfold Addr.add; split
          · rename_i h0; rw [h0]; rfl
          · rfl
        cases mx with
        | none =>
          simp only [hiN_none, hiN_some] at e2 e3 haddr ⊢
          cases cp with
          | exact c es =>
            simp only at hcap; subst hcap
            simp only [capD, Rd]
            exact ⟨hb, by omega, by omega, _, rfl, haddr cap (by omega) (Nat.le_refl _)⟩
          | toEnd es =>
            simp only at hcap hes; subst hes
            simp only [capD, Rd]
            refine ⟨hb, _, _, rfl, by omega, by omega, ?_, haddr cap (by omega) (Nat.le_refl _)⟩
            have : loN lo * ti.size + (cap - loN lo) * ti.size = cap * ti.size := by rw [← Nat.add_mul]; congr 1; omega
            omega
        | some m =>
          simp only [hiN_none, hiN_some] at e2 e3 haddr ⊢
          have e4 : m.toNat ≤ cap := by omega
          cases cp with
          | exact c es =>
            simp only [capD, Rd]
            exact ⟨hb, by omega, by omega, _, rfl, haddr m.toNat (by omega) e4⟩
          | toEnd es =>
            simp only [capD, Rd]
            exact ⟨hb, by omega, by omega, _, rfl, haddr m.toNat (by omega) e4⟩
      · cases h
    · cases h
  · rename_i b off
    split at h
    · rename_i m e _ _ _ lo hi ht
      split at h
      · rename_i ti hte
        obtain ⟨rfl, rfl⟩ := pair_inj h
        have hr := hx _ rfl
        simp only [Rd] at hr
        obtain ⟨hb, rfl⟩ := hr
        obtain ⟨hcs, hml⟩ := hc
        obtain ⟨hbd, e1, e2, e3⟩ := run_bounds (P := P) (isSlice := false) (h1 _ rfl) (h2 _ rfl) (h3 _ rfl) hcs (Nat.le_refl _) w
        have hu := run_underlying ((hT.ok t _ ht).arr rfl) w
        refine ⟨_, by
          simp only [Instr.sliceAt, Sem.run_bind, hu, Result.andThen_ok, Instr.sureAddr, hbd, (hT.ok e _ hte).run_size, Sem.run_pure]; rfl, ?_⟩
        simp only [hiN_none, hiN_some] at e2 e3
        simp only [Rd]
        refine ⟨hb, by omega, by omega, _, rfl, fun h0 => ?_⟩
        rw [if_neg (by rw [hiN_none]; omega)]
        unfold Addr.add; split
        · rename_i h0; rw [h0]; rfl
        · rfl
      · cases h
    · cases h
  · rename_i s
    split at h
    · rename_i lo hi ht
      obtain ⟨rfl, rfl⟩ := pair_inj h
      have hr := hx _ rfl
      simp only [Rd] at hr
      subst hr
      obtain ⟨hbd, e1, e2, e3⟩ := run_bounds (P := P) (isSlice := false) (h1 _ rfl) (h2 _ rfl) (h3 _ rfl) hc (Nat.le_refl _) w
      have hu := run_underlying ((hT.ok t _ ht).str rfl) w
      have hmv : mv = none := by have := h3 _ rfl; cases mv <;> simp_all [BoundV]
      subst hmv
      refine ⟨_, by
        simp only [Instr.sliceAt, Instr.slice, Sem.run_bind, hu, Result.andThen_ok, hbd, Sem.run_pure, Option.isSome, Bool.false_eq_true, if_false]; rfl, ?_⟩
      simp only [Rd]
    · cases h
  · split at h
    · rename_i e _ _ _ lo hi mx ht
      split at h
      · rename_i ti hte
        obtain ⟨rfl, rfl⟩ := pair_inj h
        have hr := hx _ rfl
        simp only [Rd] at hr
        subst hr
        obtain ⟨hbd, e1, e2, e3⟩ := run_bounds (P := P) (isSlice := true) (h1 _ rfl) (h2 _ rfl) (h3 _ rfl) hc (Nat.le_refl _) w
        have hu := run_underlying ((hT.ok t _ ht).slice rfl) w
        refine ⟨_, by
          simp only [Instr.sliceAt, Instr.slice, Sem.run_bind, hu, Result.andThen_ok, hbd, (hT.ok e _ hte).run_size, Sem.run_pure]; rfl, ?_⟩
        simp only [Rd]
        cases mx with
        | none =>
          simp only [hiN_none, hiN_some] at e2 e3 ⊢
          have a1 : hiN 0 hi = 0 := by omega
          have a2 : loN lo = 0 := by omega
          simp [a1, a2]
        | some m =>
          simp only [hiN_none, hiN_some] at e2 e3 ⊢
          have a1 : hiN 0 hi = 0 := by omega
          have a2 : loN lo = 0 := by omega
          have a3 : m.toNat = 0 := by omega
          simp [a1, a2, a3]
      · cases h
    · cases h
  · cases h
omit hT
theorem cellsD_rd {d : D} {ys : List D} (h : cellsD d = some ys) {x : Value} (hx : Rd E d x) : RdL E ys x.cells.toList := by
  have one : ∀ d x, Rd E d x → x.oneCell' = true → x.cells.toList = [x] → RdL E [d] x.cells.toList := fun d x h1 h2 h3 => by
    rw [h3]; simp only [RdL]; exact ⟨x, [], rfl, h2, h1, rfl⟩
  cases d with
  | v z =>
    simp only [cellsD] at h
    split at h
    case isFalse => cases h
    rename_i hz
    injection h with h; subst h
    have hx' := hx
    simp only [Rd] at hx; subst hx
    refine one _ _ hx' hz ?_
    cases x <;> simp_all [Value.cells, Value.oneCell']
  | ro n xs =>
    simp only [cellsD] at h; injection h with h; subst h
    have hx' := hx
    simp only [Rd] at hx; obtain ⟨_, A, c, rfl, _⟩ := hx
    exact one _ _ hx' rfl rfl
  | rp xs j =>
    simp only [cellsD] at h; injection h with h; subst h
    have hx' := hx
    simp only [Rd] at hx; obtain ⟨_, A, rfl, _⟩ := hx
    exact one _ _ hx' rfl rfl
  | sl b off n c =>
    simp only [cellsD] at h; injection h with h; subst h
    have hx' := hx
    cases c <;> simp only [Rd] at hx
    · obtain ⟨_, _, _, A, rfl, _⟩ := hx
      exact one _ _ hx' rfl rfl
    · obtain ⟨_, A, c, rfl, _⟩ := hx
      exact one _ _ hx' rfl rfl
  | ptr b off =>
    simp only [cellsD] at h; injection h with h; subst h
    have hx' := hx
    simp only [Rd] at hx; obtain ⟨_, rfl⟩ := hx
    exact one _ _ hx' rfl rfl
  | agg xs =>
    simp only [cellsD] at h; injection h with h; subst h
    simp only [Rd] at hx; obtain ⟨us, rfl, hl⟩ := hx
    exact hl
  | tup xs => simp [cellsD] at h
  | ifc t d =>
    simp only [cellsD] at h; injection h with h; subst h
    have hx' := hx
    simp only [Rd] at hx; obtain ⟨y, rfl, _⟩ := hx
    exact one _ _ hx' (ifcV_one t y).1 (by rw [(ifcV_one t y).2])
  | fn f k caps =>
    simp only [cellsD] at h; injection h with h; subst h
    have hx' := hx
    simp only [Rd] at hx; obtain ⟨fs, us, rfl, _⟩ := hx
    exact one _ _ hx' rfl rfl
theorem setAll_length : ∀ (ys : List D) (cs : List D) (off : Nat), (setAll cs off ys).length = cs.length
  | [], cs, off => rfl
  | y :: ys, cs, off => by simp [setAll, setAll_length ys]
theorem setAll_rd : ∀ (ys : List D) (us : List Value) (cs : List D) (vs : Array Value) (off k : Nat), RdL E ys us → RdL E cs vs.toList →
    RdL E (setAll cs (off + k) ys) ((us.zipIdx k).foldl (fun cs (p : Value × Nat) => cs.setIfInBounds (off + p.2) p.1) vs).toList
  | [], us, cs, vs, off, k, h, hcs => by
    simp only [RdL] at h; subst h
    simpa [setAll] using hcs
  | y :: ys, us, cs, vs, off, k, h, hcs => by
    simp only [RdL] at h
    obtain ⟨u, r, rfl, ho, hd, hr⟩ := h
    simp only [setAll, List.zipIdx_cons, List.foldl_cons]
    have := setAll_rd ys r (cs.set (off + k) y) (vs.setIfInBounds (off + k) u) off (k + 1) hr (by
      rw [Array.toList_setIfInBounds]; exact hcs.set _ _ (off + k) y u ho hd)
    rwa [← Nat.add_assoc] at this
end
end Go.VD
end
section
namespace Go.VD
set_option linter.unusedVariables false
set_option linter.unusedSimpArgs false
def szOf (T : Tbl) (t : TypeId) : Nat := match T t with | some ti => ti.size | none => 0
section
variable {P : Program} {T : Tbl} (hT : TblOk P T) {E : Ctx}
theorem pick_sound {dc da db : Option D} {d : D} {c : Prop} (h : pickD dc da db = some (d, c)) (hc : c) {x y z : Value} (hx : ∀ d', dc = some d' → Rd E d' x) (hy : ∀ d', da = some d' → Rd E d' y) (hz : ∀ d', db = some d' → Rd E d' z) :
    ∃ b, x = .bool b ∧ Rd E d (if b then y else z) := by
  unfold pickD at h
  split at h
  · rename_i b p q
    obtain ⟨rfl, rfl⟩ := pair_inj h
    have h1 := hx _ rfl
    have h2 := hy _ rfl
    have h3 := hz _ rfl
    simp only [Rd] at h1 h2 h3
    refine ⟨b, h1, ?_⟩
    simp only [Rd]
    cases b
    · simpa using h3
    · simpa using h2
  · rename_i b da db _
    obtain ⟨rfl, rfl⟩ := pair_inj h
    have h1 := hx _ rfl
    have h2 := hy _ rfl
    have h3 := hz _ rfl
    simp only [Rd] at h1
    refine ⟨b, h1, ?_⟩
    cases b
    · simpa using h3
    · simpa using h2
  · rename_i b da
    obtain ⟨rfl, rfl⟩ := pair_inj h
    have h1 := hx _ rfl
    have h2 := hy _ rfl
    simp only [Rd] at h1
    exact ⟨b, h1, by rw [hc]; exact h2⟩
  · rename_i b db
    obtain ⟨rfl, rfl⟩ := pair_inj h
    have h1 := hx _ rfl
    have h2 := hz _ rfl
    simp only [Rd] at h1
    exact ⟨b, h1, by rw [hc]; exact h2⟩
  · cases h
theorem fill_sound {env : Env} {ev : Operand → Value} (hg : ∀ x d, opnd env x = some d → Rd E d (ev x)) {place : Nat → Option (Nat × Nat)} :
    ∀ (parts : List (Nat × Operand)) (cs : List D) (vs : Array Value) (out : List D), fillD place env cs parts = some out → RdL E cs vs.toList →
      ∃ ws : Array Value, Instr.fill place vs (parts.map fun p => (p.1, ev p.2)) = some ws ∧ RdL E out ws.toList
  | [], cs, vs, out, h, hcs => by
    simp only [fillD] at h; injection h with h; subst h
    exact ⟨vs, by simp [Instr.fill], hcs⟩
  | (i, x) :: rest, cs, vs, out, h, hcs => by
    simp only [fillD] at h
    split at h
    · rename_i off size ys hp hys
      split at h
      · rename_i hlen
        cases hgx : opnd env x with
        | none => simp [hgx] at hys
        | some dx =>
          simp only [hgx, Option.bind_some] at hys
          have hl := cellsD_rd hys (hg x dx hgx)
          have hn := hl.length
          have hcn := hcs.length
          have hsz : (ev x).cells.size = size := by rw [← Array.length_toList, hn]; exact hlen.1
          have hvs : vs.size = cs.length := by rw [← Array.length_toList, hcn]
          obtain ⟨ws, h1, h2⟩ := fill_sound hg rest _ _ out h (by
            have := setAll_rd (E := E) ys (ev x).cells.toList cs vs off 0 hl hcs
            simpa using this)
          refine ⟨ws, ?_, h2⟩
          simp only [List.map_cons, Instr.fill, hp]
          rw [if_neg (by simp [hsz]; omega)]
          rw [← h1]
          congr 1
          rw [← Array.foldl_toList]
          simp
      · cases h
    · cases h
def placesOf (T : Tbl) (l : List Field) : List (Nat × Nat) := l.map fun (f : Field) => (f.offset, szOf T f.type)
include hT
theorem run_places : ∀ (l : List Field), (∀ f ∈ l, (T f.type).isSome = true) → ∀ w, (l.mapM fun (f : Field) => (do pure (f.offset, ← sizeOf f.type) : Sem (Nat × Nat))).run P w = .ok (placesOf T l) w
  | [], _, w => by simp [placesOf]
  | f :: r, h, w => by
    obtain ⟨ti, hti⟩ := Option.isSome_iff_exists.1 (h f (by simp))
    have ih := run_places r (fun g hg => h g (by simp [hg])) w
    simp only [List.mapM_cons, Sem.run_bind, (hT.ok _ _ hti).run_size, Sem.run_pure, Result.andThen_ok, ih]
    simp [placesOf, szOf, hti]
theorem build_sound {env : Env} {ev : Operand → Value} (hg : ∀ x d, opnd env x = some d → Rd E d (ev x)) {t : TypeId} {parts : Array (Nat × Operand)} {d : D} {c : Prop} (h : buildD T env (T t) parts.toList = some (d, c)) (w : World) :
    ∃ v, (Instr.build t (parts.map fun (i, x) => (i, ev x))).run P w = .ok v w ∧ Rd E d v := by
  have hparts : (parts.map fun (p : Nat × Operand) => (p.1, ev p.2)).toList = parts.toList.map fun p => (p.1, ev p.2) := by simp
  have hz : ∀ (ti : TI), T t = some ti → ∃ z : Value, (∀ w, (zeroValue t).run P w = .ok z w) ∧ RdL E (ti.zero.map .v) z.cells.toList := fun ti ht => by
    obtain ⟨z, h1, h2⟩ := (hT.ok t ti ht).run_zero
    refine ⟨z, h2, ?_⟩
    rw [h1]
    exact RdL.scalars E _ (by rw [List.all_eq_true]; exact (hT.ok t ti ht).one)
  unfold buildD at h
  split at h
  · rename_i fs _ _ zero ht
    split at h
    · rename_i hall
      obtain ⟨z, hz1, hz2⟩ := hz _ ht
      cases hf : fillD (placeD T fs) env (zero.map .v) parts.toList with
      | none => simp [hf] at h
      | some cs =>
        simp only [hf, Option.map_some] at h
        obtain ⟨rfl, rfl⟩ := pair_inj h
        obtain ⟨F, hF, hm⟩ := (hT.ok t _ ht).struct rfl
        have hall' : ∀ f ∈ F.toList, (T f.type).isSome = true := by
          intro f hfm
          rw [← hm, List.all_map, List.all_eq_true] at hall
          exact hall f hfm
        have hmap : (F.mapM fun (f : Field) => (do pure (f.offset, ← sizeOf f.type) : Sem (Nat × Nat))).run P w = .ok (placesOf T F.toList).toArray w := by
          rw [Array.mapM_eq_mapM_toList]
          simp only [Sem.run_map, run_places hT F.toList hall', Result.andThen_ok]
        have hplace : ∀ i p, placeD T fs i = some p → (placesOf T F.toList).toArray[i]? = some p := by
          intro i p hp
          unfold placeD at hp
          split at hp
          · rename_i off ft hfs
            split at hp
            · rename_i ti hti
              injection hp with hp; subst hp
              rw [← hm] at hfs
              simp only [List.getElem?_map] at hfs
              cases hFi : F.toList[i]? with
              | none => simp [hFi] at hfs
              | some f =>
                simp only [hFi, Option.map_some, Option.some.injEq, Prod.mk.injEq] at hfs
                simp only [List.getElem?_toArray, placesOf, List.getElem?_map, hFi, Option.map_some, hfs.2, hti, hfs.1, szOf]
            · cases hp
          · cases hp
        have hplace' : placeD T fs = fun i => (placesOf T F.toList).toArray[i]? := by
          funext i
          cases hp : placeD T fs i with
          | some p => exact (hplace i p hp).symm
          | none =>
            unfold placeD at hp
            simp only [List.getElem?_toArray, placesOf, List.getElem?_map]
            cases hFi : F.toList[i]? with
            | none => rfl
            | some f =>
              exfalso
              have hs := hall' f (List.mem_of_getElem? hFi)
              obtain ⟨ti, hti⟩ := Option.isSome_iff_exists.1 hs
              rw [← hm] at hp
              simp [hFi, hti] at hp
        obtain ⟨ws, h1, h2⟩ := fill_sound (E := E) hg parts.toList _ z.cells _ hf hz2
        rw [hplace'] at h1
        refine ⟨.agg ws, ?_, by simp only [Rd]; exact ⟨ws, rfl, h2⟩⟩
        simp only [Instr.build, Sem.run_bind, hz1, Result.andThen_ok, run_underlying hF, hmap, Sem.run_pure]
        rw [hparts, h1]
        rfl
    · cases h
  · rename_i n e _ _ zero ht
    split at h
    · rename_i ti hte
      obtain ⟨z, hz1, hz2⟩ := hz _ ht
      cases hf : fillD (fun i => some (i * ti.size, ti.size)) env (zero.map .v) parts.toList with
      | none => simp [hf] at h
      | some cs =>
        simp only [hf, Option.map_some] at h
        obtain ⟨rfl, rfl⟩ := pair_inj h
        obtain ⟨ws, h1, h2⟩ := fill_sound (E := E) hg parts.toList _ z.cells _ hf hz2
        refine ⟨.agg ws, ?_, by simp only [Rd]; exact ⟨ws, rfl, h2⟩⟩
        simp only [Instr.build, Sem.run_bind, hz1, Result.andThen_ok, run_underlying ((hT.ok t _ ht).arr rfl), (hT.ok e _ hte).run_size, Sem.run_pure]
        rw [hparts, h1]
        rfl
    · cases h
  · cases h
theorem len_sound {t ty : TypeId} {dx : Option D} {d : D} {c : Prop} (h : lenD (T t) dx = some (d, c)) {x : Value} (hx : ∀ d', dx = some d' → Rd E d' x) (w : World) :
    ∃ v, (Builtin.len_ #[t] ty #[x]).run P w = .ok v w ∧ Rd E d v := by
  unfold lenD at h
  split at h <;> (try (cases h; done)) <;> split at h <;> (try (cases h; done)) <;> obtain ⟨rfl, rfl⟩ := pair_inj h <;> rename_i ht <;> have hr := hx _ rfl
  · simp only [Rd] at hr; obtain ⟨_, A, cp, rfl, _⟩ := hr
    exact ⟨_, by simp [Builtin.len_, run_underlying ((hT.ok t _ ht).slice rfl)]; rfl, by simp [Rd, goInt]⟩
  · rename_i b off n cp _ _ _ _ _
    have : ∃ A c, x = .slice A n c := by
      cases cp <;> simp only [Rd] at hr
      · obtain ⟨_, _, _, A, h, _⟩ := hr; exact ⟨A, _, h⟩
      · obtain ⟨_, A, c, h, _⟩ := hr; exact ⟨A, c, h⟩
    obtain ⟨A, c, rfl⟩ := this
    exact ⟨_, by simp [Builtin.len_, run_underlying ((hT.ok t _ ht).slice rfl)]; rfl, by simp [Rd, goInt]⟩
  · simp only [Rd] at hr; subst hr
    exact ⟨_, by simp [Builtin.len_, run_underlying ((hT.ok t _ ht).str rfl)]; rfl, by simp [Rd, goInt]⟩
  · simp only [Rd] at hr; subst hr
    exact ⟨_, by simp [Builtin.len_, run_underlying ((hT.ok t _ ht).slice rfl)]; rfl, by simp [Rd, goInt]⟩
theorem cap_sound {t ty : TypeId} {dx : Option D} {d : D} {c : Prop} (h : capV (T t) dx = some (d, c)) {x : Value} (hx : ∀ d', dx = some d' → Rd E d' x) (w : World) :
    ∃ v, (Builtin.cap_ #[t] ty #[x]).run P w = .ok v w ∧ Rd E d v := by
  unfold capV at h
  split at h <;> (try (cases h; done)) <;> split at h <;> (try (cases h; done)) <;> obtain ⟨rfl, rfl⟩ := pair_inj h <;> rename_i ht <;> have hr := hx _ rfl
  · simp only [Rd] at hr; obtain ⟨_, _, _, A, rfl, _⟩ := hr
    exact ⟨_, by simp [Builtin.cap_, run_underlying ((hT.ok t _ ht).slice rfl)]; rfl, by simp [Rd, goInt]⟩
  · simp only [Rd] at hr; subst hr
    exact ⟨_, by simp [Builtin.cap_, run_underlying ((hT.ok t _ ht).slice rfl)]; rfl, by simp [Rd, goInt]⟩
omit hT
theorem mm_sound {isMax : Bool} {dx dy : Option D} {d : D} {c : Prop} (h : mm2 isMax dx dy = some (d, c)) {x y : Value} (hx : ∀ d', dx = some d' → Rd E d' x) (hy : ∀ d', dy = some d' → Rd E d' y) (ts : Array TypeId) (ty : TypeId) (w : World) :
    ∃ v, (if isMax then Builtin.max_ ts ty #[x, y] else Builtin.min_ ts ty #[x, y]).run P w = .ok v w ∧ Rd E d v := by
  unfold mm2 at h
  split at h
  · rename_i k a l b
    split at h
    · rename_i hk; subst hk
      obtain ⟨rfl, rfl⟩ := pair_inj h
      have h1 := hx _ rfl
      have h2 := hy _ rfl
      simp only [Rd] at h1 h2
      subst h1; subst h2
      cases isMax
      · refine ⟨.int k (min a b), ?_, by simp [Rd]⟩
        simp only [Bool.false_eq_true, if_false, Builtin.min_]
        have e : (if b < a then b else a) = min a b := by split <;> omega
        simp [Builtin.min2, e]
      · refine ⟨.int k (max a b), ?_, by simp [Rd]⟩
        simp only [if_true, Builtin.max_]
        have e : (if b > a then b else a) = max a b := by split <;> omega
        simp [Builtin.max2, e]
    · cases h
  · cases h
theorem mm2_run {isMax : Bool} {dx dy d : D} {c : Prop} (h : mm2 isMax (some dx) (some dy) = some (d, c)) {x y : Value} (hx : Rd E dx x) (hy : Rd E dy y) (w : World) :
    ∃ v, (if isMax then Builtin.max2 x y else Builtin.min2 x y).run P w = .ok v w ∧ Rd E d v := by
  obtain ⟨v, h1, h2⟩ := mm_sound (P := P) h (fun d' e => by cases e; exact hx) (fun d' e => by cases e; exact hy) #[] 0 w
  refine ⟨v, ?_, h2⟩
  cases isMax <;> simpa [Builtin.max_, Builtin.min_] using h1
theorem mmL_run {isMax : Bool} {w : World} : ∀ (ds : List D) (d : D) (v : Value) (vs : List Value) (e : D) (c : Prop), mmL isMax d ds = some (e, c) → Rd E d v → RdT E ds vs →
    ∃ u, (vs.foldlM (if isMax then Builtin.max2 else Builtin.min2) v).run P w = .ok u w ∧ Rd E e u
  | [], d, v, vs, e, c, h, hd, hs => by
    simp only [mmL] at h
    obtain ⟨rfl, rfl⟩ := pair_inj h
    simp only [RdT] at hs
    subst hs
    exact ⟨v, by simp, hd⟩
  | f :: ds, d, v, vs, e, c, h, hd, hs => by
    simp only [mmL] at h
    simp only [RdT] at hs
    obtain ⟨u, r, rfl, h1, h2⟩ := hs
    split at h
    · rename_i g c' hg
      obtain ⟨z, k1, k2⟩ := mm2_run (P := P) hg hd h1 w
      obtain ⟨q, k3, k4⟩ := mmL_run ds g z r e c h k2 h2
      refine ⟨q, ?_, k4⟩
      cases isMax <;> simp at k1 k3 ⊢ <;> rw [k1] <;> simpa using k3
    · cases h
theorem mmA_run {isMax : Bool} {o : Option (List D)} {d : D} {c : Prop} (h : mmA isMax o = some (d, c)) {args : Array Value} (hr : ∀ ds, o = some ds → RdT E ds args.toList) (ts : Array TypeId) (ty : TypeId) (w : World) :
    ∃ v, (if isMax then Builtin.max_ ts ty args else Builtin.min_ ts ty args).run P w = .ok v w ∧ Rd E d v := by
  unfold mmA at h
  split at h
  · rename_i d0 ds
    have h0 := hr _ rfl
    simp only [RdT] at h0
    obtain ⟨u, r, e, h1, h2⟩ := h0
    obtain ⟨q, k3, k4⟩ := mmL_run (P := P) (w := w) ds d0 u r d c h h1 h2
    refine ⟨q, ?_, k4⟩
    cases isMax <;> simp only [Builtin.max_, Builtin.min_, e] <;> simpa using k3
  · cases h
end
end Go.VD
end
