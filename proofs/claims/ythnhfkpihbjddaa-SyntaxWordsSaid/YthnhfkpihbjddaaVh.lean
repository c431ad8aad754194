/- Operations on the call's own blocks, on data, and their soundness. -/
import Derived.Test.YthnhfkpihbjddaaVg
import Derived.Maps.AppendAt
namespace Go.VD
set_option linter.unusedVariables false
set_option linter.unusedSimpArgs false

def blkRaw (H : Heap) (b : Nat) : Option Blk := match H[b]? with
  | some (some blk) => some blk
  | _ => none
theorem blkRaw_some {H : Heap} {b : Nat} {blk : Blk} (h : blkRaw H b = some blk) : H[b]? = some (some blk) := by
  unfold blkRaw at h; split at h
  · injection h with h; subst h; assumption
  · cases h
/-- a block of cells -/
def blkAt (H : Heap) (b : Nat) : Option Blk := match H[b]? with
  | some (some blk) => bif Nat.beq blk.ty itTy then none else some blk
  | _ => none
theorem blkAt_both {H : Heap} {b : Nat} {blk : Blk} (h : blkAt H b = some blk) : H[b]? = some (some blk) ∧ blk.ty ≠ itTy := by
  unfold blkAt at h; split at h
  · rename_i x hx
    cases hb : Nat.beq x.ty itTy with
    | true => rw [hb] at h; cases h
    | false =>
      rw [hb] at h
      injection h with h; subst h
      exact ⟨hx, Nat.ne_of_beq_eq_false hb⟩
  · cases h
theorem blkAt_some {H : Heap} {b : Nat} {blk : Blk} (h : blkAt H b = some blk) : H[b]? = some (some blk) := (blkAt_both h).1
theorem blkAt_ty {H : Heap} {b : Nat} {blk : Blk} (h : blkAt H b = some blk) : blk.ty ≠ itTy := (blkAt_both h).2
theorem blkAt_mk {H : Heap} {b : Nat} {blk : Blk} (h : H[b]? = some (some blk)) (ht : blk.ty ≠ itTy) : blkAt H b = some blk := by
  unfold blkAt; rw [h]
  simp only
  rw [show Nat.beq blk.ty itTy = false from Bool.eq_false_iff.2 fun e => ht (Nat.eq_of_beq_eq_true e)]
  rfl

def makeD (zero : List Value) (n : Nat) : List D :=
  match zero with
  | [z] => List.replicate n (.v z)
  | zs => (List.range (n * zs.length)).map fun i => .v (zs.getD (i % zs.length) undef)

/-- the cells of a slice: those of its elements -/
def srcD (H : Heap) (es : Nat) : Option D → Option (Nat × List D × Prop)
  | some (.ro m ys) => some (m, ys.take (m * es), m * es ≤ ys.length)
  | some (.sl b off m _) => match blkAt H b with
    | some blk => some (m, (blk.cs.drop off).take (m * es), off + m * es ≤ blk.cs.length)
    | none => none
  | some (.v (.slice _ 0 _)) => some (0, [], True)
  | _ => none

/-- what of the call's own blocks an operation touches: nothing; it reads, or writes, a block; it makes new ones from number n on; it reads all; anything -/
inductive Tch where
  | no
  | rd (b : Nat)
  | wr (b : Nat)
  | mk (n : Nat)
  | ra
  | al

structure HOut where
  d : D
  H : Heap
  touch : Tch
  c : Prop

def boxH (H : Heap) (elem : TypeId) : Option (List D) → Option HOut
  | some cs => bif Nat.beq elem itTy then none else some ⟨.ptr H.length 0, H ++ [some ⟨elem, cs, true⟩], .mk H.length, True⟩
  | none => none
def loadH (H : Heap) (t : Option TI) : Option D → Option HOut
  | some (.ptr b off) => match blkAt H b, t with
    | some blk, some ti => some ⟨(partD ti blk.cs off).1, H, .rd b, (partD ti blk.cs off).2⟩
    | _, _ => none
  | _ => none
def storeH (H : Heap) (t : Option TI) (ys : Option (List D)) : Option D → Option HOut
  | some (.ptr b off) => match blkAt H b, t, ys with
    | some blk, some ti, some ys => some ⟨.v undef, H.set b (some ⟨blk.ty, setAll blk.cs off ys, blk.full⟩), .wr b, ys.length = ti.size ∧ off + ti.size ≤ blk.cs.length⟩
    | _, _, _ => none
  | _ => none
def makeH (T : Tbl) (H : Heap) (t : Option TI) : Option D → Option D → Option HOut
  | some (.v (.int _ n)), some (.v (.int _ m)) => match t with
    | some ⟨.slice e, _, _, _⟩ => match T e with
      | some ti => some ⟨.sl H.length 0 n.toNat (.toEnd ti.size), H ++ [some ⟨e, makeD ti.zero m.toNat, true⟩], .mk H.length, 0 ≤ n ∧ n ≤ m ∧ (ti.bytes : Int) * m ≤ 281474976710656 ∧ m ≤ 9223372036854775807⟩
      | none => none
    | _ => none
  | _, _ => none
def buildSliceH (T : Tbl) (env : Env) (H : Heap) (t : Option TI) (len : Nat) (parts : List (Nat × Operand)) : Option HOut :=
  match t with
  | some ⟨.slice e, _, _, _⟩ => match T e with
    | some ti => match fillD (fun i => some (i * ti.size, ti.size)) env (makeD ti.zero len) parts with
      | some cs => some ⟨.sl H.length 0 len (.toEnd ti.size), H ++ [some ⟨e, cs, true⟩], .mk H.length, len * ti.size ≤ 16777216 ∧ len ≤ maxLen⟩
      | none => none
    | none => none
  | _ => none
def appendH (T : Tbl) (H : Heap) (t t' : Option TypeId) (ti : Option TI) (src : Option D) : Option D → Option HOut
  | some (.sl b 0 n (.toEnd es)) => match t, t', ti with
    | some t, some t', some ⟨.slice e, _, _, _⟩ => match T e, blkAt H b with
      | some te, some blk => match srcD H te.size src with
        | some (m, news, c) => some ⟨.sl H.length 0 (n + m) (.toEnd te.size), H.set b none ++ [some ⟨e, blk.cs.take (n * te.size) ++ news, false⟩], .al,
            c ∧ t = t' ∧ es = te.size ∧ blk.ty = e ∧ n * te.size ≤ blk.cs.length ∧ 0 < te.size ∧ n + m ≤ maxLen ∧ (n + m) * te.bytes ≤ 140737488355328⟩
        | none => none
      | _, _ => none
    | _, _, _ => none
  | some (.v (.slice none 0 0)) => match t, t', ti with
    | some t, some t', some ⟨.slice e, _, _, _⟩ => match T e with
      | some te => match srcD H te.size src with
        | some (m, news, c) => some ⟨.sl H.length 0 m (.toEnd te.size), H ++ [some ⟨e, news, false⟩], .al,
            c ∧ t = t' ∧ 0 < te.size ∧ m ≤ maxLen ∧ m * te.bytes ≤ 140737488355328⟩
        | none => none
      | none => none
    | _, _, _ => none
  | _ => none

/-- the string of the bytes in these cells -/
def strOf (ds : List D) : ByteArray := ⟨(ds.map fun d => UInt8.ofNat (cellInt d).toNat).toArray⟩
def AllU8 (ds : List D) : Prop := ∀ d ∈ ds, IsInt .u8 d
def tchOf : Option D → Tch
  | some (.sl b _ _ _) => .rd b
  | _ => .no
def bytesH (T : Tbl) (H : Heap) (s d : Option TI) (x : Option D) : Option HOut :=
  match s, d with
  | some ⟨.slice e, _, _, _⟩, some ⟨.str, _, _, _⟩ => match T e with
    | some ⟨.int .u8, _, _, _⟩ => match srcD H 1 x with
      | some (_, news, c) => some ⟨.v (.string (strOf news)), H, tchOf x, c ∧ AllU8 news⟩
      | none => none
    | _ => none
  | _, _ => none

/-! ### Iterators over strings -/
def itBlk (s : ByteArray) (n : Int) : Option Blk := some ⟨itTy, [.v (.string s), .v (.int .i64 n)], true⟩
def rangeH (H : Heap) (t : Option TI) : Option D → Option HOut
  | some (.v (.string s)) => match t with
    | some ⟨.str, _, _, _⟩ => some ⟨.ptr H.length 0, H ++ [itBlk s 0], .mk H.length, True⟩
    | _ => none
  | _ => none
def iterAt (H : Heap) (b : Nat) : Option (ByteArray × Int) := match blkRaw H b with
  | some ⟨ty, [.v (.string s), .v (.int .i64 n)], true⟩ => bif Nat.beq ty itTy then some (s, n) else none
  | _ => none
theorem iterAt_some {H : Heap} {b : Nat} {s : ByteArray} {n : Int} (h : iterAt H b = some (s, n)) : H[b]? = some (itBlk s n) := by
  unfold iterAt at h
  split at h
  · rename_i ty s' n' hb
    have hb := blkRaw_some hb
    cases hbe : Nat.beq ty itTy with
    | false => rw [hbe] at h; cases h
    | true =>
      rw [hbe] at h
      have : ty = itTy := Nat.eq_of_beq_eq_true hbe
      rw [this] at hb
      simp only [cond_true, Option.some.injEq, Prod.mk.injEq] at h
      obtain ⟨h1, h2⟩ := h
      rw [← h1, ← h2]
      exact hb
  · cases h
def nextD (s : ByteArray) (n : Int) (b : Bool) : D := bif b then .tup [.v (.bool true), .v (.int .i64 n), .v (.int .i32 ((Utf8.decode s n.toNat).1 : Nat))] else .tup [.v (.bool false)]
def nextN (s : ByteArray) (n : Int) (b : Bool) : Int := bif b then ((n.toNat + (Utf8.decode s n.toNat).2 : Nat) : Int) else n
def nextH (H : Heap) : Option D → Option HOut
  | some (.ptr b 0) => match iterAt H b with
    | some (s, n) => some ⟨nextD s n (decide (n.toNat < s.size)), H.set b (itBlk s (nextN s n (decide (n.toNat < s.size)))), .wr b, True⟩
    | none => none
  | _ => none

def opH (T : Tbl) (env : Env) (H : Heap) : Op → Option HOut
  | .range t x => rangeH H (T t) (opnd env x)
  | .next it true => nextH H (opnd env it)
  | .convert s d x => bytesH T H (T s) (T d) (opnd env x)
  | .box elem x => boxH H elem ((opnd env x).bind cellsD)
  | .alloc elem => match T elem with
    | some ti => some ⟨.ptr H.length 0, H ++ [some ⟨elem, ti.zero.map .v, true⟩], .mk H.length, True⟩
    | none => none
  | .load t x => loadH H (T t) (opnd env x)
  | .store t x y => storeH H (T t) ((opnd env y).bind cellsD) (opnd env x)
  | .makeSlice t l c => makeH T H (T t) (opnd env l) (opnd env c)
  | .buildSlice t len parts => buildSliceH T env H (T t) len parts.toList
  | .call { callee := .builtin .append, args, argTypes } => match args.toList with
    | [s, x] => appendH T H argTypes.toList[0]? argTypes.toList[1]? (argTypes.toList[0]?.bind T) (opnd env x) (opnd env s)
    | _ => none
  | _ => none

def RunsTo (P : Program) (o : Oper) (a : Act) (w : World) (v : Value) (w' : World) : Prop :=
  (execOp a.eval o).run P w = .ok (.value v) w' ∨ ((execOp a.eval o).run P w = .ok .skip w' ∧ v = undef)

/-- What a step gives: a value that reads as d, in a world of heap H'. -/
def Gives (P : Program) (o : Oper) (a : Act) (ρ : Nat → Nat × Nat) (S : Nat → Prop) (w : World) (H H' : Heap) (d : D) : Prop :=
  ∃ v w' ρ', RunsTo P o a w v w' ∧ St ρ' S w' H' ∧ (ctx ρ S w H).le (ctx ρ' S w' H') ∧ Rd (ctx ρ' S w' H') d v

section
variable {P : Program} {T : Tbl} (hT : TblOk P T) {ρ : Nat → Nat × Nat} {S : Nat → Prop} {w : World} {H : Heap}

theorem heap_new (w : World) (o : Obj) : (w.alloc o).heap[w.heap.size]? = some o := heap_alloc_new w o

/-- a new block of known cells: the pointer to it -/
theorem new_block {ty : TypeId} {cs : List D} {vs : Array Value} (hty : ty ≠ itTy) (hS : St ρ S w H) (hl : RdL (ctx ρ S w H) cs vs.toList) :
    ∃ ρ', St ρ' S (w.alloc (.cells vs ty)) (H ++ [some ⟨ty, cs, true⟩]) ∧ (ctx ρ S w H).le (ctx ρ' S (w.alloc (.cells vs ty)) (H ++ [some ⟨ty, cs, true⟩])) ∧ ρ' H.length = (w.heap.size, vs.size) := by
  have hn : cs.length = vs.toList.length := hl.length.symm
  refine ⟨ext ρ H.length (w.heap.size, vs.size), hS.new (blk := ⟨ty, cs, true⟩) (Grow.alloc w _) (Nat.le_refl _) hty (heap_new w _) ?_ (fun _ => by simpa using hn), le_new (fun k hk => (hS.sub k hk).1) (Grow.alloc w _) (Nat.le_refl _), ext_same _ _ _⟩
  simp only [hn, List.take_length]; exact hl

theorem rd_ptr {ρ' : Nat → Nat × Nat} {w' : World} {H' : Heap} {b id sz off : Nat} (hb : b < H'.length) (h : ρ' b = (id, sz)) : Rd (ctx ρ' S w' H') (.ptr b off) (.pointer (some ⟨id, off, none⟩)) := by
  simp only [Rd]; exact ⟨hb, by simp [h]⟩

theorem load_blk {b off : Nat} {blk : Blk} {t : TypeId} {ti : TI} (hS : St ρ S w H) (hb : H[b]? = some (some blk)) (hit : blk.ty ≠ itTy) (ht : TiOk P t ti) (hc : (partD ti blk.cs off).2) :
    ∃ v, (loadVar t ⟨(ρ b).1, off, none⟩).run P w = .ok v w ∧ Rd (ctx ρ S w H) (partD ti blk.cs off).1 v := by
  by_cases hz : (ρ b).2 = 0
  · have hcs := hS.none b blk hb hz
    -- nothing can be read of a block without cells but an aggregate without cells
    rw [hcs] at hc ⊢
    cases hagg : ti.td.isAgg with
    | true =>
      rw [partD_agg hagg] at hc ⊢
      simp only [List.length_nil] at hc
      have h0 : ti.size = 0 := by omega
      refine ⟨.agg #[], ?_, by simp only [Rd]; exact ⟨#[], rfl, by simp [RdL]⟩⟩
      simp [loadVar, ht.run_isAgg, hagg, ht.run_size, h0, loadCells, loadCellsFrom]
    | false =>
      have := (partD_one hagg hc).1
      simp at this
  · obtain ⟨cur, hk⟩ := hS.blk b blk hb (by omega)
    have hcell : ∀ i d, blk.cs[i]? = some d → ∃ u, w.cell? ((⟨(ρ b).1, 0, none⟩ : Addr).add (0 + i)) = some u ∧ u.oneCell' = true ∧ Rd (ctx ρ S w H) d u := by
      intro i d hi
      obtain ⟨u, hu, ho, hd⟩ := hk.pre.get _ _ i d hi
      refine ⟨u, ?_, ho, hd⟩
      rw [Nat.zero_add]
      have hadd : (⟨(ρ b).1, 0, none⟩ : Addr).add i = ⟨(ρ b).1, i, none⟩ := by unfold Addr.add; split <;> simp_all
      have hh := hk.heap.cells hit
      simp only [ctx] at hh
      rw [hadd, cell_of_row w (ρ b).1 i cur blk.ty (0, 0) hh]
      rw [List.getElem?_take] at hu
      split at hu
      · simpa using hu
      · cases hu
    have hat : RdAt (ctx ρ S w H) blk.cs ⟨(ρ b).1, 0, none⟩ 0 := RdAt.mk _ _ _ hcell
    obtain ⟨v, h1, h2⟩ := hat.part (P := P) ht hc
    have hadd : (⟨(ρ b).1, 0, none⟩ : Addr).add off = ⟨(ρ b).1, off, none⟩ := by unfold Addr.add; split <;> simp_all
    rw [hadd] at h1
    exact ⟨v, h1, h2⟩

theorem setAll_segment : ∀ (ys cs : List D) (off : Nat), off + ys.length ≤ cs.length → setAll cs off ys = cs.take off ++ ys ++ cs.drop (off + ys.length)
  | [], cs, off, h => by simp [setAll]
  | y :: ys, cs, off, h => by
    simp only [List.length_cons] at h
    simp only [setAll]
    rw [setAll_segment ys _ _ (by simp; omega)]
    have hlt : off < cs.length := by omega
    rw [List.set_eq_take_append_cons_drop, if_pos hlt]
    have e1 : (cs.take off ++ y :: cs.drop (off + 1)).take (off + 1) = cs.take off ++ [y] := by
      rw [List.take_append]
      simp only [List.length_take, Nat.min_eq_left (Nat.le_of_lt hlt)]
      rw [List.take_of_length_le (by simp; omega)]
      simp
    have e2 : (cs.take off ++ y :: cs.drop (off + 1)).drop (off + 1 + ys.length) = cs.drop (off + (ys.length + 1)) := by
      rw [List.drop_append]
      simp only [List.length_take, Nat.min_eq_left (Nat.le_of_lt hlt)]
      rw [List.drop_of_length_le (by simp; omega)]
      have : off + 1 + ys.length - off = ys.length + 1 := by omega
      rw [this, List.nil_append, List.drop_succ_cons, List.drop_drop]
      congr 1; omega
    rw [e1, e2]
    simp [Nat.add_comm, Nat.add_left_comm, Nat.add_assoc]

theorem store_blk {b off : Nat} {blk : Blk} {t : TypeId} {ti : TI} {ys : List D} {x : Value} (hS : St ρ S w H) (hb : H[b]? = some (some blk)) (hit : blk.ty ≠ itTy) (ht : TiOk P t ti) (hl : RdL (ctx ρ S w H) ys x.cells.toList)
    (hlen : ys.length = ti.size) (hin : off + ti.size ≤ blk.cs.length) :
    ∃ w', (storeVar t ⟨(ρ b).1, off, none⟩ x).run P w = .ok () w' ∧ St ρ S w' (H.set b (some ⟨blk.ty, setAll blk.cs off ys, blk.full⟩)) ∧ (ctx ρ S w H).le (ctx ρ S w' (H.set b (some ⟨blk.ty, setAll blk.cs off ys, blk.full⟩))) := by
  have hxl := hl.length
  have hsz : x.cells.size = ti.size := by rw [← Array.length_toList, hxl, hlen]
  by_cases hz : (ρ b).2 = 0
  · have hcs := hS.none b blk hb hz
    rw [hcs] at hin
    have h0 : ti.size = 0 := by simp only [List.length_nil] at hin; omega
    have hys : ys = [] := List.eq_nil_of_length_eq_zero (by omega)
    have hxs : x.cells.toList = [] := List.eq_nil_of_length_eq_zero (by omega)
    subst hys
    have hset : H.set b (some ⟨blk.ty, setAll blk.cs off [], blk.full⟩) = H := by
      have : (⟨blk.ty, setAll blk.cs off [], blk.full⟩ : Blk) = blk := by simp [setAll]
      rw [this]
      exact List.ext_getElem? fun i => by
        by_cases hi : b = i
        · subst hi; rw [List.getElem?_set_self (List.getElem?_eq_some_iff.1 hb).1, hb]
        · rw [List.getElem?_set_ne hi]
    rw [hset]
    refine ⟨w, ?_, hS, Ctx.le.refl _⟩
    simp [storeVar, ht.run_size, hsz, hxs, storeCells]
  · obtain ⟨cur, hk⟩ := hS.blk b blk hb (by omega)
    have hh := hk.heap.cells hit
    simp only [ctx] at hh
    have hpl := hk.pre.length
    have hcur : blk.cs.length ≤ cur.size := by simp at hpl; omega
    have hst := run_storeCells_at (P := P) (ρ b).1 off blk.ty x.cells.toList 0 cur w hh (by simp; omega) (hl.one)
    have hrun : (storeVar t ⟨(ρ b).1, off, none⟩ x).run P w = .ok () (w.setRow (ρ b).1 (cur.toList.take off ++ x.cells.toList ++ cur.toList.drop (off + x.cells.toList.length)).toArray) := by
      simp only [storeVar, Sem.run_bind, ht.run_size, Result.andThen_ok, hsz, ne_eq, not_true_eq_false, if_false]
      simpa using hst
    have hsize : (w.setRow (ρ b).1 (cur.toList.take off ++ x.cells.toList ++ cur.toList.drop (off + x.cells.toList.length)).toArray).heap.size = w.heap.size := by simp [World.setRow]
    have hother : ∀ k, k ≠ (ρ b).1 → (w.setRow (ρ b).1 (cur.toList.take off ++ x.cells.toList ++ cur.toList.drop (off + x.cells.toList.length)).toArray).heap[k]? = w.heap[k]? := fun k hk => setRow_other w _ k _ hk
    refine ⟨_, hrun, ?_, le_write hS.sub hb (by omega) hsize hother rfl rfl rfl⟩
    have hseg := setAll_segment ys blk.cs off (by omega)
    refine hS.write (cur := (cur.toList.take off ++ x.cells.toList ++ cur.toList.drop (off + x.cells.toList.length)).toArray) hit hb (by omega) hsize hother rfl rfl rfl (setRow_heap w _ cur _ blk.ty _ hh) ?_ ?_ ?_
    · have := hk.size; simp; omega
    · show RdL (ctx ρ S w H) (setAll blk.cs off ys) (List.take (setAll blk.cs off ys).length _)
      rw [setAll_length, hseg]
      simp only [List.toList_toArray]
      have e : (cur.toList.take off ++ x.cells.toList ++ cur.toList.drop (off + x.cells.toList.length)).take blk.cs.length =
          (cur.toList.take blk.cs.length).take off ++ x.cells.toList ++ (cur.toList.take blk.cs.length).drop (off + ys.length) := by
        apply List.ext_getElem?
        intro i
        simp only [List.getElem?_take, List.getElem?_append, List.length_append, List.length_take, List.getElem?_drop, Array.length_toList]
        rw [show x.cells.size = ys.length by omega]
        by_cases h1 : i < blk.cs.length
        · simp only [h1, if_true]
          have m1 : min off cur.size = off := by omega
          have m2 : min off (min blk.cs.length cur.size) = off := by omega
          simp only [m1, m2]
          by_cases h2 : i < off + ys.length
          · simp only [h2, if_true]
          · simp only [h2, if_false]
            have h4 : off + ys.length + (i - (off + ys.length)) < blk.cs.length := by omega
            simp [h4]
        · simp only [h1, if_false]
          have m2 : min off (min blk.cs.length cur.size) = off := by omega
          simp only [m2]
          have h2 : ¬ i < off + ys.length := by omega
          simp only [h2, if_false]
          have h4 : ¬ off + ys.length + (i - (off + ys.length)) < blk.cs.length := by omega
          simp [h4]
      rw [e]
      exact RdL.append _ _ _ _ (RdL.append _ _ _ _ (hk.pre.take off) hl) (hk.pre.drop _)
    · intro hf
      have := hk.full hf
      simp [setAll_length]; omega
end
end Go.VD
