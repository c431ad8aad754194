import Derived.Test.YtahiigfpikohgaaZUo1
import Derived.Maps.AppendAt
import Derived.Lib.AppendStr
section
namespace Go.VD
set_option linter.unusedVariables false
set_option linter.unusedSimpArgs false
def blkRaw (H : Heap) (b : Nat) : Option Blk := match H[b]? with
  | some (some blk) => some blk
  | _ => none
theorem blkRaw_some {H : Heap} {b : Nat} {blk : Blk} (h : blkRaw H b = some blk) : H[b]? = some (some blk) := by
  unfold blkRaw at h; split at h
  · injection h with h; subst h; assumption
  · cases h
def blkAt (H : Heap) (b : Nat) : Option Blk := match H[b]? with
  | some (some blk) => bif Nat.beq blk.ty itTy then none else some blk
  | _ => none
theorem blkAt_both {H : Heap} {b : Nat} {blk : Blk} (h : blkAt H b = some blk) : H[b]? = some (some blk) ∧ blk.ty ≠ itTy := by
  unfold blkAt at h; split at h
  · rename_i x hx
    cases hb : Nat.beq x.ty itTy with
    | true => rw [hb] at h; cases h
    | false =>
      rw [hb] at h
      injection h with h; subst h
      exact ⟨hx, Nat.ne_of_beq_eq_false hb⟩
  · cases h
theorem blkAt_some {H : Heap} {b : Nat} {blk : Blk} (h : blkAt H b = some blk) : H[b]? = some (some blk) := (blkAt_both h).1
theorem blkAt_ty {H : Heap} {b : Nat} {blk : Blk} (h : blkAt H b = some blk) : blk.ty ≠ itTy := (blkAt_both h).2
theorem blkAt_mk {H : Heap} {b : Nat} {blk : Blk} (h : H[b]? = some (some blk)) (ht : blk.ty ≠ itTy) : blkAt H b = some blk := by
  unfold blkAt; rw [h]
  simp only
  rw [show Nat.beq blk.ty itTy = false from Bool.eq_false_iff.2 fun e => ht (Nat.eq_of_beq_eq_true e)]
  rfl
def makeD (zero : List Value) (n : Nat) : List D :=
  match zero with
  | [z] => List.replicate n (.v z)
  | zs => (List.range (n * zs.length)).map fun i => .v (zs.getD (i % zs.length) undef)
def srcD (H : Heap) (es : Nat) : Option D → Option (Nat × List D × Prop)
  | some (.ro m ys) => some (m, ys.take (m * es), m * es ≤ ys.length)
  | some (.sl b off m _) => match blkAt H b with
    | some blk => some (m, (blk.cs.drop off).take (m * es), off + m * es ≤ blk.cs.length)
    | none => none
  | some (.v (.slice _ 0 _)) => some (0, [], True)
  | _ => none
inductive Tch where
  | no
  | rd (b : Nat)
  | wr (b : Nat)
  | mk (n : Nat)
  | ra
  | al
structure HOut where
  d : D
  H : Heap
  touch : Tch
  c : Prop
def boxH (H : Heap) (elem : TypeId) : Option (List D) → Option HOut
  | some cs => bif Nat.beq elem itTy then none else some ⟨.ptr H.length 0, H ++ [some ⟨elem, cs, true⟩], .mk H.length, True⟩
  | none => none
def loadH (H : Heap) (t : Option TI) : Option D → Option HOut
  | some (.ptr b off) => match blkAt H b, t with
    | some blk, some ti => some ⟨(partD ti blk.cs off).1, H, .rd b, (partD ti blk.cs off).2⟩
    | _, _ => none
  | _ => none
def storeH (H : Heap) (t : Option TI) (ys : Option (List D)) : Option D → Option HOut
  | some (.ptr b off) => match blkAt H b, t, ys with
    | some blk, some ti, some ys => some ⟨.v undef, H.set b (some ⟨blk.ty, setAll blk.cs off ys, blk.full⟩), .wr b, ys.length = ti.size ∧ off + ti.size ≤ blk.cs.length⟩
    | _, _, _ => none
  | _ => none
def makeH (T : Tbl) (H : Heap) (t : Option TI) : Option D → Option D → Option HOut
  | some (.v (.int _ n)), some (.v (.int _ m)) => match t with
    | some ⟨.slice e, _, _, _⟩ => match T e with
      | some ti => some ⟨.sl H.length 0 n.toNat (.toEnd ti.size), H ++ [some ⟨e, makeD ti.zero m.toNat, true⟩], .mk H.length, 0 ≤ n ∧ n ≤ m ∧ (ti.bytes : Int) * m ≤ 281474976710656 ∧ m ≤ 9223372036854775807⟩
      | none => none
    | _ => none
  | _, _ => none
def buildSliceH (T : Tbl) (env : Env) (H : Heap) (t : Option TI) (len : Nat) (parts : List (Nat × Operand)) : Option HOut :=
  match t with
  | some ⟨.slice e, _, _, _⟩ => match T e with
    | some ti => match fillD (fun i => some (i * ti.size, ti.size)) env (makeD ti.zero len) parts with
      | some cs => some ⟨.sl H.length 0 len (.toEnd ti.size), H ++ [some ⟨e, cs, true⟩], .mk H.length, len * ti.size ≤ 16777216 ∧ len ≤ maxLen⟩
      | none => none
    | none => none
  | _ => none
def strD (s : ByteArray) : List D := s.data.toList.map fun b => .v (.int .u8 (b.toNat : Nat))
def appendS (T : Tbl) (H : Heap) (b n es : Nat) (t' : TypeId) (e : TypeId) (te : TI) (blk : Blk) (s : ByteArray) : Option HOut :=
  match T t' with
  | some ⟨.str, _, _, _⟩ => match te with
    | ⟨.int .u8, 1, 1, _⟩ => some ⟨.sl H.length 0 (n + s.size) (.toEnd 1), H.set b none ++ [some ⟨e, blk.cs.take n ++ strD s, false⟩], .al,
        es = 1 ∧ blk.ty = e ∧ n ≤ blk.cs.length ∧ n + s.size ≤ maxLen ∧ n + s.size ≤ 140737488355328⟩
    | _ => none
  | _ => none
def srcStr (o : Option HOut) (f : ByteArray → Option HOut) : Option D → Option HOut
  | some (.v (.string s)) => f s
  | _ => o
def appendH (T : Tbl) (H : Heap) (t t' : Option TypeId) (ti : Option TI) (src : Option D) : Option D → Option HOut
  | some (.sl b 0 n (.toEnd es)) => match t, t', ti with
    | some t, some t', some ⟨.slice e, _, _, _⟩ => match T e, blkAt H b with
      | some te, some blk => match srcD H te.size src with
        | some (m, news, c) => some ⟨.sl H.length 0 (n + m) (.toEnd te.size), H.set b none ++ [some ⟨e, blk.cs.take (n * te.size) ++ news, false⟩], .al,
            c ∧ t = t' ∧ es = te.size ∧ blk.ty = e ∧ n * te.size ≤ blk.cs.length ∧ 0 < te.size ∧ n + m ≤ maxLen ∧ (n + m) * te.bytes ≤ 140737488355328⟩
        | none => srcStr none (appendS T H b n es t' e te blk) src
      | _, _ => none
    | _, _, _ => none
  | some (.v (.slice none 0 0)) => match t, t', ti with
    | some t, some t', some ⟨.slice e, _, _, _⟩ => match T e with
      | some te => match srcD H te.size src with
        | some (m, news, c) => some ⟨.sl H.length 0 m (.toEnd te.size), H ++ [some ⟨e, news, false⟩], .al,
            c ∧ t = t' ∧ 0 < te.size ∧ m ≤ maxLen ∧ m * te.bytes ≤ 140737488355328⟩
        | none => none
      | none => none
    | _, _, _ => none
  | _ => none
def strOf (ds : List D) : ByteArray := ⟨(ds.map fun d => UInt8.ofNat (cellInt d).toNat).toArray⟩
def AllU8 (ds : List D) : Prop := ∀ d ∈ ds, IsInt .u8 d
def tchOf : Option D → Tch
  | some (.sl b _ _ _) => .rd b
  | _ => .no
def bytesH (T : Tbl) (H : Heap) (s d : Option TI) (x : Option D) : Option HOut :=
  match s, d with
  | some ⟨.slice e, _, _, _⟩, some ⟨.str, _, _, _⟩ => match T e with
    | some ⟨.int .u8, _, _, _⟩ => match srcD H 1 x with
      | some (_, news, c) => some ⟨.v (.string (strOf news)), H, tchOf x, c ∧ AllU8 news⟩
      | none => none
    | _ => none
  | _, _ => none
def itBlk (s : ByteArray) (n : Int) : Option Blk := some ⟨itTy, [.v (.string s), .v (.int .i64 n)], true⟩
def rangeH (H : Heap) (t : Option TI) : Option D → Option HOut
  | some (.v (.string s)) => match t with
    | some ⟨.str, _, _, _⟩ => some ⟨.ptr H.length 0, H ++ [itBlk s 0], .mk H.length, True⟩
    | _ => none
  | _ => none
def iterAt (H : Heap) (b : Nat) : Option (ByteArray × Int) := match blkRaw H b with
  | some ⟨ty, [.v (.string s), .v (.int .i64 n)], true⟩ => bif Nat.beq ty itTy then some (s, n) else none
  | _ => none
theorem iterAt_some {H : Heap} {b : Nat} {s : ByteArray} {n : Int} (h : iterAt H b = some (s, n)) : H[b]? = some (itBlk s n) := by
  unfold iterAt at h
  split at h
  · rename_i ty s' n' hb
    have hb := blkRaw_some hb
    cases hbe : Nat.beq ty itTy with
    | false => rw [hbe] at h; cases h
    | true =>
      rw [hbe] at h
      have : ty = itTy := Nat.eq_of_beq_eq_true hbe
      rw [this] at hb
      simp only [cond_true, Option.some.injEq, Prod.mk.injEq] at h
      obtain ⟨h1, h2⟩ := h
      rw [← h1, ← h2]
      exact hb
  · cases h
def nextD (s : ByteArray) (n : Int) (b : Bool) : D := bif b then .tup [.v (.bool true), .v (.int .i64 n), .v (.int .i32 ((Utf8.decode s n.toNat).1 : Nat))] else .tup [.v (.bool false)]
def nextN (s : ByteArray) (n : Int) (b : Bool) : Int := bif b then ((n.toNat + (Utf8.decode s n.toNat).2 : Nat) : Int) else n
def nextH (H : Heap) : Option D → Option HOut
  | some (.ptr b 0) => match iterAt H b with
    | some (s, n) => some ⟨nextD s n (decide (n.toNat < s.size)), H.set b (itBlk s (nextN s n (decide (n.toNat < s.size)))), .wr b, True⟩
    | none => none
  | _ => none
def opH (T : Tbl) (env : Env) (H : Heap) : Op → Option HOut
  | .range t x => rangeH H (T t) (opnd env x)
  | .next it true => nextH H (opnd env it)
  | .convert s d x => bytesH T H (T s) (T d) (opnd env x)
  | .box elem x => boxH H elem ((opnd env x).bind cellsD)
  | .alloc elem => match T elem with
    | some ti => some ⟨.ptr H.length 0, H ++ [some ⟨elem, ti.zero.map .v, true⟩], .mk H.length, True⟩
    | none => none
  | .load t x => loadH H (T t) (opnd env x)
  | .store t x y => storeH H (T t) ((opnd env y).bind cellsD) (opnd env x)
  | .makeSlice t l c => makeH T H (T t) (opnd env l) (opnd env c)
  | .buildSlice t len parts => buildSliceH T env H (T t) len parts.toList
  | .call { callee := .builtin .append, args, argTypes } => match args.toList with
    | [s, x] => appendH T H argTypes.toList[0]? argTypes.toList[1]? (argTypes.toList[0]?.bind T) (opnd env x) (opnd env s)
    | _ => none
  | _ => none
def RunsTo (P : Program) (o : Oper) (a : Act) (w : World) (v : Value) (w' : World) : Prop :=
  (execOp a.eval o).run P w = .ok (.value v) w' ∨ ((execOp a.eval o).run P w = .ok .skip w' ∧ v = undef)
def Gives (P : Program) (o : Oper) (a : Act) (ρ : Nat → Nat × Nat) (S : Nat → Prop) (w : World) (H H' : Heap) (d : D) : Prop :=
  ∃ v w' ρ', RunsTo P o a w v w' ∧ St ρ' S w' H' ∧ (ctx ρ S w H).le (ctx ρ' S w' H') ∧ Rd (ctx ρ' S w' H') d v
section
variable {P : Program} {T : Tbl} (hT : TblOk P T) {ρ : Nat → Nat × Nat} {S : Nat → Prop} {w : World} {H : Heap}
theorem heap_new (w : World) (o : Obj) : (w.alloc o).heap[w.heap.size]? = some o := heap_alloc_new w o
theorem new_block {ty : TypeId} {cs : List D} {vs : Array Value} (hty : ty ≠ itTy) (hS : St ρ S w H) (hl : RdL (ctx ρ S w H) cs vs.toList) :
    ∃ ρ', St ρ' S (w.alloc (.cells vs ty)) (H ++ [some ⟨ty, cs, true⟩]) ∧ (ctx ρ S w H).le (ctx ρ' S (w.alloc (.cells vs ty)) (H ++ [some ⟨ty, cs, true⟩])) ∧ ρ' H.length = (w.heap.size, vs.size) := by
  have hn : cs.length = vs.toList.length := hl.length.symm
  refine ⟨ext ρ H.length (w.heap.size, vs.size), hS.new (blk := ⟨ty, cs, true⟩) (Grow.alloc w _) (Nat.le_refl _) hty (heap_new w _) ?_ (fun _ => by simpa using hn), le_new (fun k hk => (hS.sub k hk).1) (Grow.alloc w _) (Nat.le_refl _), ext_same _ _ _⟩
  simp only [hn, List.take_length]; exact hl
theorem rd_ptr {ρ' : Nat → Nat × Nat} {w' : World} {H' : Heap} {b id sz off : Nat} (hb : b < H'.length) (h : ρ' b = (id, sz)) : Rd (ctx ρ' S w' H') (.ptr b off) (.pointer (some ⟨id, off, none⟩)) := by
  simp only [Rd]; exact ⟨hb, by simp [h]⟩
theorem load_blk {b off : Nat} {blk : Blk} {t : TypeId} {ti : TI} (hS : St ρ S w H) (hb : H[b]? = some (some blk)) (hit : blk.ty ≠ itTy) (ht : TiOk P t ti) (hc : (partD ti blk.cs off).2) :
    ∃ v, (loadVar t ⟨(ρ b).1, off, none⟩).run P w = .ok v w ∧ Rd (ctx ρ S w H) (partD ti blk.cs off).1 v := by
  by_cases hz : (ρ b).2 = 0
  · have hcs := hS.none b blk hb hz
    rw [hcs] at hc ⊢
    cases hagg : ti.td.isAgg with
    | true =>
      rw [partD_agg hagg] at hc ⊢
      simp only [List.length_nil] at hc
      have h0 : ti.size = 0 := by omega
      refine ⟨.agg #[], ?_, by simp only [Rd]; exact ⟨#[], rfl, by simp [RdL]⟩⟩
      simp [loadVar, ht.run_isAgg, hagg, ht.run_size, h0, loadCells, loadCellsFrom]
    | false =>
      have := (partD_one hagg hc).1
      simp at this
  · obtain ⟨cur, hk⟩ := hS.blk b blk hb (by omega)
    have hcell : ∀ i d, blk.cs[i]? = some d → ∃ u, w.cell? ((⟨(ρ b).1, 0, none⟩ : Addr).add (0 + i)) = some u ∧ u.oneCell' = true ∧ Rd (ctx ρ S w H) d u := by
      intro i d hi
      obtain ⟨u, hu, ho, hd⟩ := hk.pre.get _ _ i d hi
      refine ⟨u, ?_, ho, hd⟩
      rw [Nat.zero_add]
      have hadd : (⟨(ρ b).1, 0, none⟩ : Addr).add i = ⟨(ρ b).1, i, none⟩ := by unfold Addr.add; split <;> simp_all
      have hh := hk.heap.cells hit
      simp only [ctx] at hh
      rw [hadd, cell_of_row w (ρ b).1 i cur blk.ty (0, 0) hh]
      rw [List.getElem?_take] at hu
      split at hu
      · simpa using hu
      · cases hu
    have hat : RdAt (ctx ρ S w H) blk.cs ⟨(ρ b).1, 0, none⟩ 0 := RdAt.mk _ _ _ hcell
    obtain ⟨v, h1, h2⟩ := hat.part (P := P) ht hc
    have hadd : (⟨(ρ b).1, 0, none⟩ : Addr).add off = ⟨(ρ b).1, off, none⟩ := by unfold Addr.add; split <;> simp_all
    rw [hadd] at h1
    exact ⟨v, h1, h2⟩
theorem setAll_segment : ∀ (ys cs : List D) (off : Nat), off + ys.length ≤ cs.length → setAll cs off ys = cs.take off ++ ys ++ cs.drop (off + ys.length)
  | [], cs, off, h => by simp [setAll]
  | y :: ys, cs, off, h => by
    simp only [List.length_cons] at h
    simp only [setAll]
    rw [setAll_segment ys _ _ (by simp; omega)]
    have hlt : off < cs.length := by omega
    rw [List.set_eq_take_append_cons_drop, if_pos hlt]
    have e1 : (cs.take off ++ y :: cs.drop (off + 1)).take (off + 1) = cs.take off ++ [y] := by
      rw [List.take_append]
      simp only [List.length_take, Nat.min_eq_left (Nat.le_of_lt hlt)]
      rw [List.take_of_length_le (by simp; omega)]
      simp
    have e2 : (cs.take off ++ y :: cs.drop (off + 1)).drop (off + 1 + ys.length) = cs.drop (off + (ys.length + 1)) := by
      rw [List.drop_append]
      simp only [List.length_take, Nat.min_eq_left (Nat.le_of_lt hlt)]
      rw [List.drop_of_length_le (by simp; omega)]
      have : off + 1 + ys.length - off = ys.length + 1 := by omega
      rw [this, List.nil_append, List.drop_succ_cons, List.drop_drop]
      congr 1; omega
    rw [e1, e2]
    simp [Nat.add_comm, Nat.add_left_comm, Nat.add_assoc]
theorem store_blk {b off : Nat} {blk : Blk} {t : TypeId} {ti : TI} {ys : List D} {x : Value} (hS : St ρ S w H) (hb : H[b]? = some (some blk)) (hit : blk.ty ≠ itTy) (ht : TiOk P t ti) (hl : RdL (ctx ρ S w H) ys x.cells.toList)
    (hlen : ys.length = ti.size) (hin : off + ti.size ≤ blk.cs.length) :
    ∃ w', (storeVar t ⟨(ρ b).1, off, none⟩ x).run P w = .ok () w' ∧ St ρ S w' (H.set b (some ⟨blk.ty, setAll blk.cs off ys, blk.full⟩)) ∧ (ctx ρ S w H).le (ctx ρ S w' (H.set b (some ⟨blk.ty, setAll blk.cs off ys, blk.full⟩))) := by
  have hxl := hl.length
  have hsz : x.cells.size = ti.size := by rw [← Array.length_toList, hxl, hlen]
  by_cases hz : (ρ b).2 = 0
  · have hcs := hS.none b blk hb hz
    rw [hcs] at hin
    have h0 : ti.size = 0 := by simp only [List.length_nil] at hin; omega
    have hys : ys = [] := List.eq_nil_of_length_eq_zero (by omega)
    have hxs : x.cells.toList = [] := List.eq_nil_of_length_eq_zero (by omega)
    subst hys
    have hset : H.set b (some ⟨blk.ty, setAll blk.cs off [], blk.full⟩) = H := by
      have : (⟨blk.ty, setAll blk.cs off [], blk.full⟩ : Blk) = blk := by simp [setAll]
      rw [this]
      exact List.ext_getElem? fun i => by
        by_cases hi : b = i
        · subst hi; rw [List.getElem?_set_self (List.getElem?_eq_some_iff.1 hb).1, hb]
        · rw [List.getElem?_set_ne hi]
    rw [hset]
    refine ⟨w, ?_, hS, Ctx.le.refl _⟩
    simp [storeVar, ht.run_size, hsz, hxs, storeCells]
  · obtain ⟨cur, hk⟩ := hS.blk b blk hb (by omega)
    have hh := hk.heap.cells hit
    simp only [ctx] at hh
    have hpl := hk.pre.length
    have hcur : blk.cs.length ≤ cur.size := by simp at hpl; omega
    have hst := run_storeCells_at (P := P) (ρ b).1 off blk.ty x.cells.toList 0 cur w hh (by simp; omega) (hl.one)
    have hrun : (storeVar t ⟨(ρ b).1, off, none⟩ x).run P w = .ok () (w.setRow (ρ b).1 (cur.toList.take off ++ x.cells.toList ++ cur.toList.drop (off + x.cells.toList.length)).toArray) := by
      simp only [storeVar, Sem.run_bind, ht.run_size, Result.andThen_ok, hsz, ne_eq, not_true_eq_false, if_false]
      simpa using hst
    have hsize : (w.setRow (ρ b).1 (cur.toList.take off ++ x.cells.toList ++ cur.toList.drop (off + x.cells.toList.length)).toArray).heap.size = w.heap.size := by simp [World.setRow]
    have hother : ∀ k, k ≠ (ρ b).1 → (w.setRow (ρ b).1 (cur.toList.take off ++ x.cells.toList ++ cur.toList.drop (off + x.cells.toList.length)).toArray).heap[k]? = w.heap[k]? := fun k hk => setRow_other w _ k _ hk
    refine ⟨_, hrun, ?_, le_write hS.sub hb (by omega) hsize hother rfl rfl rfl⟩
    have hseg := setAll_segment ys blk.cs off (by omega)
    refine hS.write (cur := (cur.toList.take off ++ x.cells.toList ++ cur.toList.drop (off + x.cells.toList.length)).toArray) hit hb (by omega) hsize hother rfl rfl rfl (setRow_heap w _ cur _ blk.ty _ hh) ?_ ?_ ?_
    · have := hk.size; simp; omega
    · show RdL (ctx ρ S w H) (setAll blk.cs off ys) (List.take (setAll blk.cs off ys).length _)
      rw [setAll_length, hseg]
      simp only [List.toList_toArray]
      have e : (cur.toList.take off ++ x.cells.toList ++ cur.toList.drop (off + x.cells.toList.length)).take blk.cs.length =
          (cur.toList.take blk.cs.length).take off ++ x.cells.toList ++ (cur.toList.take blk.cs.length).drop (off + ys.length) := by
        apply List.ext_getElem?
        intro i
        simp only [List.getElem?_take, List.getElem?_append, List.length_append, List.length_take, List.getElem?_drop, Array.length_toList]
        rw [show x.cells.size = ys.length by omega]
        by_cases h1 : i < blk.cs.length
        · simp only [h1, if_true]
          have m1 : min off cur.size = off := by omega
          have m2 : min off (min blk.cs.length cur.size) = off := by omega
          simp only [m1, m2]
          by_cases h2 : i < off + ys.length
          · simp only [h2, if_true]
          · simp only [h2, if_false]
            have h4 : off + ys.length + (i - (off + ys.length)) < blk.cs.length := by omega
            simp [h4]
        · simp only [h1, if_false]
          have m2 : min off (min blk.cs.length cur.size) = off := by omega
          simp only [m2]
          have h2 : ¬ i < off + ys.length := by omega
          simp only [h2, if_false]
          have h4 : ¬ off + ys.length + (i - (off + ys.length)) < blk.cs.length := by omega
          simp [h4]
      rw [e]
      exact RdL.append _ _ _ _ (RdL.append _ _ _ _ (hk.pre.take off) hl) (hk.pre.drop _)
    · intro hf
      have := hk.full hf
      simp [setAll_length]; omega
end
end Go.VD
end
section
namespace Go.VD
set_option linter.unusedVariables false
set_option linter.unusedSimpArgs false
section
variable {P : Program} {T : Tbl} (hT : TblOk P T) {ρ : Nat → Nat × Nat} {S : Nat → Prop} {w w' : World} {H : Heap}
theorem RdL.map2 {E : Ctx} {α : Type} (f : α → D) (g : α → Value) : ∀ (l : List α), (∀ x ∈ l, (g x).oneCell' = true ∧ Rd E (f x) (g x)) → RdL E (l.map f) (l.map g)
  | [], _ => by simp [RdL]
  | x :: l, h => by
    simp only [List.map_cons, RdL]
    exact ⟨_, _, rfl, (h x (by simp)).1, (h x (by simp)).2, RdL.map2 f g l fun y hy => h y (by simp [hy])⟩
theorem makeD_rd {E : Ctx} {t : TypeId} {ti : TI} (ht : TiOk P t ti) {z : Value} (hz : z.cells.toList = ti.zero) (n : Nat) : RdL E (makeD ti.zero n) (madeCells z.cells (n * ti.size)).toList := by
  have hlen := ht.len
  have hsz : z.cells.size = ti.size := by rw [← Array.length_toList, hz, hlen]
  have gen : RdL E ((List.range (n * ti.zero.length)).map fun i => D.v (ti.zero.getD (i % ti.zero.length) undef)) (madeCells z.cells (n * ti.size)).toList := by
    rw [hlen]
    have e : (madeCells z.cells (n * ti.size)).toList = (List.range (n * ti.size)).map fun i => ti.zero.getD (i % ti.size) undef := by
      simp only [madeCells, Array.toList_map, Array.toList_range, hsz]
      apply List.map_congr_left
      intro i hi
      have hpos : 0 < ti.size := by
        rcases Nat.eq_zero_or_pos ti.size with h0 | h0
        · rw [h0] at hi; simp at hi
        · exact h0
      have hlt : i % ti.size < z.cells.size := by rw [hsz]; exact Nat.mod_lt _ hpos
      rw [getElem!_pos z.cells _ hlt, List.getD_eq_getElem?_getD, ← hz, Array.getElem?_toList, Array.getElem?_eq_getElem hlt]
      rfl
    rw [e]
    refine RdL.map2 _ _ _ fun i hi => ⟨?_, by simp [Rd]⟩
    have hpos : 0 < ti.size := by
      rcases Nat.eq_zero_or_pos ti.size with h0 | h0
      · rw [h0] at hi; simp at hi
      · exact h0
    have hlt : i % ti.size < ti.zero.length := by rw [hlen]; exact Nat.mod_lt _ hpos
    rw [List.getD_eq_getElem?_getD, List.getElem?_eq_getElem hlt]
    exact ht.one _ (List.getElem_mem hlt)
  unfold makeD
  split
  · rename_i z0 hz0
    have hs1 : ti.size = 1 := by rw [← hlen, hz0]; rfl
    have hc : z.cells = #[z0] := by rw [← Array.toList_inj, hz, hz0]
    rw [hs1, Nat.mul_one, hc, toList_madeCells_one]
    exact RdL.replicate _ _ (ht.one z0 (by rw [hz0]; simp)) (by simp [Rd]) n
  · exact gen
theorem makeD_length (zero : List Value) (n : Nat) : (makeD zero n).length = n * zero.length := by
  unfold makeD; split <;> simp
theorem srcD_spec {es : Nat} (hes : 0 < es) {dx : Option D} {m : Nat} {news : List D} {c : Prop} (h : srcD H es dx = some (m, news, c)) (hc : c) (hS : St ρ S w H) {x : Value} (hx : ∀ d, dx = some d → Rd (ctx ρ S w H) d x) :
    news.length = m * es ∧ ∃ B c', x = .slice B m c' ∧ ∃ us : List Value, RdL (ctx ρ S w H) news us ∧ (0 < m → ∃ ad : Addr, B = some ad ∧ ∀ j u, us[j]? = some u → w.cell? (ad.add j) = some u) := by
  unfold srcD at h
  split at h
  · rename_i n ys
    injection h with h; injection h with h1 h2; injection h2 with h2 h3
    subst h1; subst h2; subst h3
    have hr := hx _ rfl
    simp only [Rd] at hr
    obtain ⟨hnl, A, cp, rfl, h1, h2, h3⟩ := hr
    refine ⟨by simp; omega, A, cp, rfl, ?_⟩
    rcases Nat.eq_zero_or_pos n with h0 | h0
    · subst h0; exact ⟨[], by simp [RdL], fun h => absurd h (by omega)⟩
    · obtain ⟨ad, rfl, hs, ha⟩ := h3 h0
      obtain ⟨us, hu1, hu2⟩ := RdAt.list _ _ _ (ha.take (n * es))
      exact ⟨us, hu1, fun _ => ⟨ad, rfl, fun j u hj => by have := hu2 j u hj; rw [Nat.zero_add] at this; exact this⟩⟩
  · rename_i b off n cp
    split at h
    · rename_i blk hb
      injection h with h; injection h with h1 h2; injection h2 with h2 h3
      subst h1; subst h2; subst h3
      have hit := blkAt_ty hb; have hb := blkAt_some hb
      have hr := hx _ rfl
      have : ∃ A c, x = .slice A n c ∧ n ≤ c ∧ (0 < c → A = some ⟨(ρ b).1, off, none⟩) := by
        cases cp <;> simp only [Rd] at hr
        · obtain ⟨_, h1, _, A, h, h2⟩ := hr; exact ⟨A, _, h, h1, h2⟩
        · obtain ⟨_, A, c, h, h1, _, _, h2⟩ := hr; exact ⟨A, c, h, h1, h2⟩
      obtain ⟨A, c, rfl, hnc, hA⟩ := this
      refine ⟨by simp; omega, A, c, rfl, ?_⟩
      rcases Nat.eq_zero_or_pos n with h0 | h0
      · subst h0; exact ⟨[], by simp [RdL], fun h => absurd h (by omega)⟩
      · have hA := hA (by omega)
        subst hA
        have hpos : 0 < n * es := Nat.mul_pos h0 hes
        have hz : (ρ b).2 ≠ 0 := fun hz => by have := hS.none b blk hb hz; rw [this] at hc; simp at hc; omega
        obtain ⟨cur, hk⟩ := hS.blk b blk hb (by omega)
        refine ⟨((cur.toList.take blk.cs.length).drop off).take (n * es), (hk.pre.drop off).take _, fun _ => ⟨_, rfl, fun j u hj => ?_⟩⟩
        have hh := hk.heap.cells hit
        simp only [ctx] at hh
        have hadd : (⟨(ρ b).1, off, none⟩ : Addr).add j = ⟨(ρ b).1, off + j, none⟩ := by unfold Addr.add; split <;> simp_all
        rw [hadd, cell_of_row w (ρ b).1 _ cur blk.ty (0, 0) hh]
        rw [List.getElem?_take] at hj
        split at hj
        · rw [List.getElem?_drop, List.getElem?_take] at hj
          split at hj
          · simpa using hj
          · cases hj
        · cases hj
    · cases h
  · rename_i A cp
    injection h with h; injection h with h1 h2; injection h2 with h2 h3
    subst h1; subst h2; subst h3
    have hr := hx _ rfl
    simp only [Rd] at hr
    exact ⟨by simp, A, cp, hr, [], by simp [RdL], fun h => absurd h (by omega)⟩
  · cases h
omit hT in
theorem run_bytes_loop : ∀ (us : List Value) (s : ByteArray), (∀ u ∈ us, ∃ n, u = .int .u8 n) →
    (forIn (m := Sem) us s fun c s => (match c with
      | .int .u8 n => do pure (ForInStep.yield (s.push (UInt8.ofNat n.toNat)))
      | _ => do
        stuck "bytesToString: byte expected"
        pure (ForInStep.yield s))).run P w = .ok (us.foldl (fun s u => match u with | .int _ n => s.push (UInt8.ofNat n.toNat) | _ => s) s) w
  | [], s, _ => by simp
  | u :: us, s, h => by
    obtain ⟨n, rfl⟩ := h u (by simp)
    simp only [List.forIn_cons, Sem.run_bind, Sem.run_pure, Result.andThen_ok, List.foldl_cons]
    exact run_bytes_loop us _ fun u hu => h u (by simp [hu])
omit hT in
theorem run_bytes (ad : Addr) (us : List Value) (c : Nat) (hc : ∀ i v, us[i]? = some v → w.cell? (ad.add i) = some v) (h : ∀ u ∈ us, ∃ n, u = .int .u8 n) :
    (Conv.bytesToString (.slice (some ad) us.length c)).run P w = .ok (.string (us.foldl (fun s u => match u with | .int _ n => s.push (UInt8.ofNat n.toNat) | _ => s) ByteArray.empty)) w := by
  simp only [Conv.bytesToString, Sem.run_bind, run_loadCells_list w ad us hc, Result.andThen_ok]
  have := run_bytes_loop (P := P) (w := w) us ByteArray.empty h
  rw [← Array.forIn_toList]
  exact congrArg (fun r => r.andThen fun a w' => Sem.run P (pure (Value.string a)) w') this
omit hT in
theorem bytes_of {E : Ctx} : ∀ (ds : List D) (us : List Value) (s : ByteArray), RdL E ds us → AllU8 ds → (∀ u ∈ us, ∃ n, u = .int .u8 n) ∧
    (us.foldl (fun s u => match u with | .int _ n => s.push (UInt8.ofNat n.toNat) | _ => s) s).data = s.data ++ (ds.map fun d => UInt8.ofNat (cellInt d).toNat).toArray
  | [], us, s, hr, _ => by simp only [RdL] at hr; subst hr; simp
  | d :: ds, us, s, hr, ha => by
    simp only [RdL] at hr
    obtain ⟨u, r, rfl, _, hd, hr⟩ := hr
    have h0 : d = .v (.int .u8 (cellInt d)) := ha d (by simp)
    rw [h0] at hd
    simp only [Rd] at hd
    subst hd
    obtain ⟨h1, h2⟩ := bytes_of ds r (s.push (UInt8.ofNat (cellInt d).toNat)) hr fun e he => ha e (by simp [he])
    refine ⟨fun u hu => ?_, ?_⟩
    · rcases List.mem_cons.1 hu with rfl | hu
      · exact ⟨_, rfl⟩
      · exact h1 u hu
    · simp only [List.foldl_cons]
      rw [h2]
      apply Array.toList_inj.1
      simp [ByteArray.push]
include hT in
theorem bytes_sound {s d : TypeId} {dx : Option D} {out : HOut} (h : bytesH T H (T s) (T d) dx = some out) (hc : out.c) (hS : St ρ S w H) {x : Value} (hx : ∀ d', dx = some d' → Rd (ctx ρ S w H) d' x) :
    out.H = H ∧ ∃ v, (convert s d x).run P w = .ok v w ∧ Rd (ctx ρ S w H) out.d v := by
  unfold bytesH at h
  split at h
  · rename_i e _ _ _ _ _ _ hs hd
    split at h
    · rename_i hte
      split at h
      · rename_i m news c hsrc
        injection h with h; subst h
        refine ⟨rfl, ?_⟩
        obtain ⟨hnews, B, c', rfl, us, hus, haddr⟩ := srcD_spec (by decide) hsrc hc.1 hS hx
        have hcv : ∀ y, (convert s d (.slice B m c')).run P w = .ok y w ↔ (Conv.bytesToString (.slice B m c')).run P w = .ok y w := by
          intro y
          have e1 := (hT.ok s _ hs).slice rfl
          have e2 := (hT.ok d _ hd).str rfl
          have e3 := (hT.ok e _ hte).int rfl
          simp [convert, run_underlying e1, run_underlying e2, run_underlying e3]
        have hl : us.length = m := by rw [hus.length, hnews]; simp
        obtain ⟨h1, h2⟩ := bytes_of news us ByteArray.empty hus hc.2
        cases B with
        | none =>
          have hm : m = 0 := by
            rcases Nat.eq_zero_or_pos m with h | h
            · exact h
            · obtain ⟨ad, h, _⟩ := haddr h; cases h
          subst hm
          refine ⟨.string .empty, (hcv _).2 (by simp [Conv.bytesToString]), ?_⟩
          have : news = [] := List.eq_nil_of_length_eq_zero (by simpa using hnews)
          subst this
          simp only [Rd]; rfl
        | some ad =>
          have hcell : ∀ i v, us[i]? = some v → w.cell? (ad.add i) = some v := by
            intro i v hi
            have h0 : 0 < m := by
              rcases Nat.eq_zero_or_pos m with h | h
              · rw [h] at hl; have := List.eq_nil_of_length_eq_zero hl; subst this; simp at hi
              · exact h
            obtain ⟨ad', e, h⟩ := haddr h0
            injection e with e; subst e
            exact h i v hi
          have := run_bytes (P := P) ad us c' hcell h1
          rw [hl] at this
          refine ⟨_, (hcv _).2 this, ?_⟩
          simp only [Rd]
          congr 1
          have e : ∀ (a b : ByteArray), a.data = b.data → a = b := fun a b h => by cases a; cases b; simp_all
          apply e
          rw [h2]
          simp [strOf]
      · cases h
    · cases h
  · cases h
theorem St.renew {H0 : Heap} {blk : Blk} {id : Nat} {cur : Array Value} (hS : St ρ S w H) (hty : blk.ty ≠ itTy) (hd : Drops H H0) (hid : w.heap.size ≤ id ∨ Live ρ H id) (hnl : ¬ Live ρ H0 id)
    (hsize : w.heap.size ≤ w'.heap.size) (hheap : ∀ k, k < w.heap.size → k ≠ id → w'.heap[k]? = w.heap[k]?) (hos : w'.os = w.os) (htape : w'.tape = w.tape) (hout : w'.output = w.output)
    (hh : w'.heap[id]? = some (.cells cur blk.ty (0, 0))) (hp : RdL (ctx ρ S w H) blk.cs (cur.toList.take blk.cs.length)) (hf : blk.full = true → blk.cs.length = cur.size) (hpos : 0 < cur.size) :
    St (ext ρ H.length (id, cur.size)) S w' (H0 ++ [some blk]) ∧ (ctx ρ S w H).le (ctx (ext ρ H.length (id, cur.size)) S w' (H0 ++ [some blk])) := by
  have hlen := hd.1
  have hnS : ∀ k, Fix (ctx ρ S w H) k → k ≠ id := fun k hk e => by
    subst e
    rcases hid with h | h
    · have hk1 : k < w.heap.size := hk.1; omega
    · exact hk.2 h
  have hle : (ctx ρ S w H).le (ctx (ext ρ H.length (id, cur.size)) S w' (H0 ++ [some blk])) :=
    ⟨by simp [hlen], fun b hb => ext_lt ρ _ hb, fun _ h => h, fun k h => hheap k (hS.sub k h).1 (hnS k (hS.sub k h)), fun _ h => .inl h, fun k hk => ⟨Nat.lt_of_lt_of_le hk.1 hsize, fun ⟨b, bl, hb, hz, e⟩ => by
      dsimp only at hb hz e
      rcases getElem?_snoc_cases hb with ⟨hlt, hb⟩ | ⟨rfl, hx⟩
      · rw [hlen] at hlt
        rw [ext_lt ρ _ hlt] at e hz; exact hk.2 ⟨b, bl, hd.2 b bl hb, hz, e⟩
      · rw [hlen, ext_same] at e; exact hnS k hk e.symm⟩, fun k hk => hheap k hk.1 (hnS k hk), hsize, hos, htape, hout⟩
  refine ⟨⟨fun k hk => hle.fix k (hS.sub k hk), fun b bl hb hz => ?_, fun b bl hb hz => ?_, fun b b' bl bl' hb hb' hz hz' e => ?_, hS.glob.mono (fun _ h => h) hle.keep⟩, hle⟩
  · rcases getElem?_snoc_cases hb with ⟨hlt, hb⟩ | ⟨rfl, hx⟩
    · rw [hlen] at hlt; rw [ext_lt ρ _ hlt] at hz; exact hS.none b bl (hd.2 b bl hb) hz
    · rw [hlen, ext_same] at hz; simp only at hz; omega
  · rcases getElem?_snoc_cases hb with ⟨hlt, hb⟩ | ⟨rfl, hx⟩
    · rw [hlen] at hlt
      rw [ext_lt ρ _ hlt] at hz ⊢
      obtain ⟨c, hc⟩ := hS.blk b bl (hd.2 b bl hb) hz
      refine ⟨c, hc.heap.of (hheap _ hc.lt (fun e => hnl ⟨b, bl, hb, hz, e⟩)), hc.size, hc.pre.mono hle _ _, hc.full⟩
    · injection hx with hx; subst hx
      rw [hlen, ext_same]
      exact ⟨cur, .inl ⟨hty, hh⟩, rfl, hp.mono hle _ _, hf⟩
  · rcases getElem?_snoc_cases hb with ⟨hlt, hb⟩ | ⟨rfl, hx⟩ <;> rcases getElem?_snoc_cases hb' with ⟨hlt', hb'⟩ | ⟨rfl, hx'⟩
    · rw [hlen] at hlt hlt'
      rw [ext_lt ρ _ hlt] at e hz; rw [ext_lt ρ _ hlt'] at e hz'; exact hS.inj b b' bl bl' (hd.2 _ _ hb) (hd.2 _ _ hb') hz hz' e
    · rw [hlen] at hlt
      rw [ext_lt ρ _ hlt] at e hz; rw [hlen, ext_same] at e
      exact absurd ⟨b, bl, hb, hz, e⟩ hnl
    · rw [hlen] at hlt'
      rw [ext_lt ρ _ hlt'] at e hz'; rw [hlen, ext_same] at e
      exact absurd ⟨b', bl', hb', hz', e.symm⟩ hnl
    · rfl
theorem run_append_zero {t ty e : TypeId} {te : TI} (ht : P.underlying t = some (.slice e)) (he : TiOk P e te) (A B : Option Addr) (n c c' : Nat) (hnc : n ≤ c) :
    (Builtin.append_ #[t, t] ty #[.slice A n c, .slice B 0 c']).run P w = .ok (.slice A n c) w := by
  cases B <;> cases A <;> simp [Builtin.append_, run_underlying ht, he.run_size, Builtin.lenOf, Builtin.firstCells, hnc, storeCells, loadCells, loadCellsFrom]
theorem run_append_cap0 {t ty e : TypeId} {te : TI} (ht : P.underlying t = some (.slice e)) (he : TiOk P e te) (A B : Option Addr) (m c' : Nat) (hm : 0 < m) (hbytes : m * te.bytes ≤ 140737488355328) (h63 : m ≤ maxLen) :
    (Builtin.append_ #[t, t] ty #[.slice A 0 0, .slice B m c']).run P w = (Builtin.append_ #[t, t] ty #[.slice none 0 0, .slice B m c']).run P w := by
  obtain ⟨i, z, hi, hinfo, h1, h2, h3, h4⟩ := he.run_info w
  have hn : ¬ m ≤ 0 := by omega
  have hcap : Builtin.nextslicecap m 0 = m := by simp [Builtin.nextslicecap]; omega
  have hbig : ¬ (281474976710656 < m * i.bytes) := by rw [h2]; omega
  cases A with
  | none => rfl
  | some a => simp [Builtin.append_, run_underlying ht, sizeOf, typeInfo, hinfo, Builtin.lenOf, Builtin.firstCells, hn, Nat.pos_iff_ne_zero.1 hm, hcap, hbig, loadCells, loadCellsFrom]
theorem run_appendS_zero {t u ty e : TypeId} {te : TI} (ht : P.underlying t = some (.slice e)) (hu : P.underlying u = some .string) (he : TiOk P e te) (A : Option Addr) (n c : Nat) (s : ByteArray) (h0 : s.size = 0) (hnc : n ≤ c) :
    (Builtin.append_ #[t, u] ty #[.slice A n c, .string s]).run P w = .ok (.slice A n c) w := by
  have hf := Lib.run_firstCells_string (P := P) w te.size s
  have hn : Lib.strCells s = [] := List.eq_nil_of_length_eq_zero (by rw [Lib.strCells_length]; exact h0)
  rw [hn, h0] at hf
  cases A <;> simp [Builtin.append_, run_underlying ht, run_underlying hu, he.run_size, Builtin.lenOf, h0, hnc, hf, storeCells]
theorem run_appendS_cap0 {t u ty e : TypeId} {te : TI} (ht : P.underlying t = some (.slice e)) (hu : P.underlying u = some .string) (he : TiOk P e te) (A : Option Addr) (s : ByteArray) (hm : 0 < s.size) (hbytes : s.size * te.bytes ≤ 140737488355328) (h63 : s.size ≤ maxLen) :
    (Builtin.append_ #[t, u] ty #[.slice A 0 0, .string s]).run P w = (Builtin.append_ #[t, u] ty #[.slice none 0 0, .string s]).run P w := by
  obtain ⟨i, z, hi, hinfo, h1, h2, h3, h4⟩ := he.run_info w
  have hn : ¬ s.size ≤ 0 := by omega
  have hcap : Builtin.nextslicecap s.size 0 = s.size := nextslicecap_zero hm
  have hbig : ¬ (281474976710656 < s.size * i.bytes) := by rw [h2]; omega
  cases A with
  | none => rfl
  | some a => simp [Builtin.append_, run_underlying ht, run_underlying hu, sizeOf, typeInfo, hinfo, Builtin.lenOf, Builtin.firstCells, hn, Nat.pos_iff_ne_zero.1 hm, hcap, hbig, loadCells, loadCellsFrom]
theorem strD_rd {E : Ctx} (s : ByteArray) : RdL E (strD s) (Lib.strCells s) := by
  unfold strD Lib.strCells
  exact RdL.map2 _ _ _ fun b _ => ⟨rfl, by simp [Rd]⟩
theorem strD_length (s : ByteArray) : (strD s).length = s.size := by
  unfold strD; rw [List.length_map, Array.length_toList]; rfl
theorem appendS_sound {b n es : Nat} {t t' ty e : TypeId} {te : TI} {blk : Blk} {s : ByteArray} {out : HOut} (hT : TblOk P T) (ht : P.underlying t = some (.slice e)) (hTe : T e = some te) (hb : blkAt H b = some blk) (h : appendS T H b n es t' e te blk s = some out) (hc : out.c) (hS : St ρ S w H)
    {v : Value} (hr : Rd (ctx ρ S w H) (.sl b 0 n (.toEnd es)) v) :
    ∃ v' w' ρ', (Builtin.append_ #[t, t'] ty #[v, .string s]).run P w = .ok v' w' ∧ St ρ' S w' out.H ∧ (ctx ρ S w H).le (ctx ρ' S w' out.H) ∧ Rd (ctx ρ' S w' out.H) out.d v' := by
  unfold appendS at h
  split at h
  · rename_i hTs
    split at h
    · injection h with h; subst h
      rename_i zz
      obtain ⟨rfl, hty, hnl, hmax, hbytes⟩ := hc
      have hu := (hT.ok t' _ hTs).str rfl
      have he := hT.ok e _ hTe
      have hit := blkAt_ty hb; have hb := blkAt_some hb
      simp only [Rd] at hr
      obtain ⟨hbN, A, cp, rfl, hncp, hcpm, hcap, hA⟩ := hr
      rw [Nat.zero_add, Nat.mul_one] at hcap
      have hdrop : Drops H (H.set b none) := Drops.set H b
      have hlenS : (H.set b none).length = H.length := by simp
      obtain ⟨i, z, hi, hinfo, e1, e2, e3, e4⟩ := he.run_info w
      have hzs : z.cells.size = 1 := by rw [← Array.length_toList, e4]; exact he.len
      have hsmall : n + s.size ≤ 9223372036854775807 := by simp only [maxLen] at hmax; omega
      rcases Nat.eq_zero_or_pos s.size with hm | hm
      · have hn0 : strD s = [] := List.eq_nil_of_length_eq_zero (by rw [strD_length]; exact hm)
        have hrun := run_appendS_zero (P := P) (w := w) (ty := ty) ht hu he A n cp s hm hncp
        rcases Nat.eq_zero_or_pos cp with hcp | hcp
        · subst hcp
          have hn : n = 0 := by omega
          subst hn
          obtain ⟨h1, h2⟩ := (hS.drops hdrop).empty (ty := e) (full := false) (Grow.refl w)
          rw [hlenS] at h1 h2
          refine ⟨_, _, ext ρ H.length (0, 0), hrun, by simpa [hn0] using h1, by simpa [hn0] using hdrop.le.trans h2, ?_⟩
          simp only [Rd, hm]
          refine ⟨by simp, A, 0, rfl, Nat.le_refl _, by omega, ?_, fun h => absurd h (by omega)⟩
          simp [ext_same]
        · have hz : 0 < (ρ b).2 := by omega
          obtain ⟨cur, hk⟩ := hS.blk b blk hb hz
          have hA := hA hcp
          subst hA
          have hnlive : ¬ Live ρ (H.set b none) (ρ b).1 := fun ⟨b', bl', hb', hz', e'⟩ => by
            by_cases hbb : b = b'
            · subst hbb; rw [List.getElem?_set_self (List.getElem?_eq_some_iff.1 hb).1] at hb'; cases hb'
            · exact hbb (hS.inj b b' _ _ hb (hdrop.2 _ _ hb') hz hz' e'.symm)
          have hh := hk.heap.cells hit
          simp only [ctx] at hh
          obtain ⟨h1, h2⟩ := hS.renew (H0 := H.set b none) (blk := ⟨e, blk.cs.take n ++ strD s, false⟩) (id := (ρ b).1) (cur := cur) (w' := w) he.ne hdrop (.inr ⟨b, blk, hb, hz, rfl⟩) hnlive (Nat.le_refl _) (fun _ _ _ => rfl) rfl rfl rfl
            (by rw [hh, hty]) (by
              have e1 := hk.pre.take n
              rw [List.take_take] at e1
              simp only [hn0, List.append_nil, List.length_take]
              exact e1) (fun h => by cases h) (by rw [hk.size]; exact hz)
          refine ⟨_, _, _, hrun, h1, h2, ?_⟩
          simp only [Rd, hm]
          refine ⟨by simp, _, cp, rfl, by omega, hcpm, ?_, fun _ => ?_⟩
          · simp only [ext_same, Nat.zero_add, Nat.mul_one]; rw [hcap, hk.size]
          · simp only [ctx, ext_same]
      · -- a new row for all
        have grown : ∀ (olds : List Value) (old : Nat), olds.length = n → RdL (ctx ρ S w H) (blk.cs.take n) olds → old < n + s.size →
            (Builtin.append_ #[t, t'] ty #[.slice A n cp, .string s]).run P w = .ok (.slice (some ⟨w.heap.size, 0, none⟩) (n + s.size) (grownCap w (n + s.size) old e))
              (w.drew.alloc (.cells (olds.toArray ++ (Lib.strCells s).toArray ++ Builtin.zeroCells z.cells (grownCap w (n + s.size) old e - (n + s.size))) e)) →
            ∃ v' w' ρ', (Builtin.append_ #[t, t'] ty #[.slice A n cp, .string s]).run P w = .ok v' w' ∧ St ρ' S w' (H.set b none ++ [some ⟨e, blk.cs.take n ++ strD s, false⟩]) ∧
              (ctx ρ S w H).le (ctx ρ' S w' (H.set b none ++ [some ⟨e, blk.cs.take n ++ strD s, false⟩])) ∧ Rd (ctx ρ' S w' (H.set b none ++ [some ⟨e, blk.cs.take n ++ strD s, false⟩])) (.sl H.length 0 (n + s.size) (.toEnd 1)) v' := by
          intro olds old hol hor hlt hrun
          have hge := grownCap_ge w (n + s.size) old e
          have hcm : grownCap w (n + s.size) old e ≤ maxLen := grownCap_le_maxLen w (n + s.size) old e hmax
          have hsz : (olds.toArray ++ (Lib.strCells s).toArray ++ Builtin.zeroCells z.cells (grownCap w (n + s.size) old e - (n + s.size))).size = grownCap w (n + s.size) old e := by
            simp only [Array.size_append, List.size_toArray, size_zeroCells, hzs, hol, Lib.strCells_length]; omega
          obtain ⟨h1, h2⟩ := hS.renew (H0 := H.set b none) (blk := ⟨e, blk.cs.take n ++ strD s, false⟩) (id := w.heap.size)
            (cur := olds.toArray ++ (Lib.strCells s).toArray ++ Builtin.zeroCells z.cells (grownCap w (n + s.size) old e - (n + s.size)))
            (w' := w.drew.alloc (.cells (olds.toArray ++ (Lib.strCells s).toArray ++ Builtin.zeroCells z.cells (grownCap w (n + s.size) old e - (n + s.size))) e)) he.ne hdrop (.inl (Nat.le_refl _)) (fun hl => by
              have := (hS.drops hdrop).lt hl; omega) (by simp) (fun k hk _ => heap_alloc_old w.drew _ (show k < w.drew.heap.size from hk)) rfl rfl rfl (heap_alloc_new w.drew _) (by
              have e5 : (blk.cs.take n ++ strD s).length = (olds ++ Lib.strCells s).length := by
                rw [List.length_append, List.length_append, hol, strD_length, Lib.strCells_length, List.length_take, Nat.min_eq_left hnl]
              simp only [Array.toList_append]
              rw [e5, List.take_left]
              exact RdL.append _ _ _ _ hor (strD_rd s)) (fun h => by cases h) (by rw [hsz]; omega)
          refine ⟨_, _, _, hrun, h1, h2, ?_⟩
          simp only [Rd]
          refine ⟨by simp, _, _, rfl, hge, hcm, ?_, fun _ => ?_⟩
          · simp only [ctx, ext_same, Nat.zero_add, Nat.mul_one, hsz]
          · simp only [ctx, ext_same]
        rcases Nat.eq_zero_or_pos cp with hcp | hcp
        · subst hcp
          have hn : n = 0 := by omega
          subst hn
          have h0 := run_appendS_cap0 (P := P) (w := w) (ty := ty) ht hu he A s hm (by simpa using hbytes) (by simpa using hmax)
          have hr := run_append_nil_string (P := P) w t t' ty e i z ht hu hinfo e3 s hm (by omega) (by rw [e2]; simp only [Nat.mul_one]; omega)
          have e1' : (s.data.map fun b => Value.int .u8 b.toNat) = (Lib.strCells s).toArray := by
            apply Array.ext'; simp [Lib.strCells]
          rw [e1'] at hr
          refine grown [] 0 rfl (by simp [RdL]) (by omega) ?_
          rw [h0, hr]; simp
        · have hz : 0 < (ρ b).2 := by omega
          obtain ⟨cur, hk⟩ := hS.blk b blk hb hz
          have hA := hA hcp
          subst hA
          have hh := hk.heap.cells hit
          simp only [ctx] at hh
          have hks := hk.size
          have hcells : RdL (ctx ρ S w H) (blk.cs.take n) (cur.toList.take n) := by
            have e1 := hk.pre.take n
            rwa [List.take_take, Nat.min_eq_left hnl] at e1
          have hol : (cur.toList.take n).length = n := by rw [List.length_take, Array.length_toList]; omega
          by_cases hroom : n + s.size ≤ cp
          · have hrun := Lib.run_append_room_string (P := P) w t t' ty e i ht hu hinfo e1 (ρ b).1 n cp cur (by rw [hh, hty]) s hroom (by omega)
            have hnlive : ¬ Live ρ (H.set b none) (ρ b).1 := fun ⟨b', bl', hb', hz', e'⟩ => by
              by_cases hbb : b = b'
              · subst hbb; rw [List.getElem?_set_self (List.getElem?_eq_some_iff.1 hb).1] at hb'; cases hb'
              · exact hbb (hS.inj b b' _ _ hb (hdrop.2 _ _ hb') hz hz' e'.symm)
            have hsz : (cur.toList.take n ++ Lib.strCells s ++ cur.toList.drop (n + s.size)).toArray.size = cur.size := by
              simp only [List.size_toArray, List.length_append, List.length_take, List.length_drop, Array.length_toList, Lib.strCells_length]; omega
            obtain ⟨h1, h2⟩ := hS.renew (H0 := H.set b none) (blk := ⟨e, blk.cs.take n ++ strD s, false⟩) (id := (ρ b).1) (cur := (cur.toList.take n ++ Lib.strCells s ++ cur.toList.drop (n + s.size)).toArray)
              (w' := w.setRow (ρ b).1 (cur.toList.take n ++ Lib.strCells s ++ cur.toList.drop (n + s.size)).toArray) he.ne hdrop (.inr ⟨b, blk, hb, hz, rfl⟩) hnlive (by simp) (fun k _ hk => setRow_other w _ k _ hk) rfl rfl rfl
              (setRow_heap w (ρ b).1 cur _ e (0, 0) (by rw [hh, hty])) (by
                have e5 : (blk.cs.take n ++ strD s).length = (cur.toList.take n ++ Lib.strCells s).length := by
                  rw [List.length_append, List.length_append, hol, strD_length, Lib.strCells_length, List.length_take, Nat.min_eq_left hnl]
                rw [List.toList_toArray, e5, List.take_left]
                exact RdL.append _ _ _ _ hcells (strD_rd s)) (fun h => by cases h) (by rw [hsz, hks]; exact hz)
            refine ⟨_, _, _, hrun, h1, h2, ?_⟩
            simp only [Rd]
            refine ⟨by simp, _, cp, rfl, hroom, hcpm, ?_, fun _ => ?_⟩
            · simp only [ctx, ext_same, Nat.zero_add, Nat.mul_one, hsz]; rw [hcap, hks]
            · simp only [ctx, ext_same]
          · have hrow : ∀ j v, (cur.toList.take n)[j]? = some v → w.cell? ((⟨(ρ b).1, 0, none⟩ : Addr).add j) = some v := by
              intro j v hj
              have hadd : (⟨(ρ b).1, 0, none⟩ : Addr).add j = ⟨(ρ b).1, j, none⟩ := by unfold Addr.add; split <;> simp_all
              rw [hadd, cell_of_row w (ρ b).1 j cur blk.ty (0, 0) hh]
              rw [List.getElem?_take] at hj
              split at hj
              · simpa using hj
              · cases hj
            have hr := Lib.run_append_grow_string (P := P) w t t' ty e i z ht hu hinfo e3 ⟨(ρ b).1, 0, none⟩ n cp (cur.toList.take n) (by rw [e1, Nat.mul_one]; exact hol) hrow s (by omega) (by omega) (by rw [e2]; exact growslice_fits (need := n + s.size) (old := cp) (bytes := 1) (by omega) (by omega))
            exact grown _ cp hol hcells (by omega) hr
    · cases h
  · cases h
include hT
theorem append_sound {t t' ty : TypeId} {src : Option D} {ds : Option D} {out : HOut} (h : appendH T H (some t) (some t') (T t) src ds = some out) (hc : out.c) (hS : St ρ S w H)
    {s x : Value} (hs : ∀ d, ds = some d → Rd (ctx ρ S w H) d s) (hx : ∀ d, src = some d → Rd (ctx ρ S w H) d x) :
    ∃ v w' ρ', (Builtin.append_ #[t, t'] ty #[s, x]).run P w = .ok v w' ∧ St ρ' S w' out.H ∧ (ctx ρ S w H).le (ctx ρ' S w' out.H) ∧ Rd (ctx ρ' S w' out.H) out.d v := by
  unfold appendH at h
  split at h
  · rename_i b n es
    split at h
    · rename_i t0 t0' e _ _ _ he0 he0' hte
      injection he0 with he0; subst he0
      injection he0' with he0'; subst he0'
      split at h
      · rename_i te blk hTe hb
        split at h
        · rename_i m news c hsrc
          injection h with h; subst h
          obtain ⟨hc0, rfl, rfl, hty, hnl, hpos, hmax, hbytes⟩ := hc
          have hit := blkAt_ty hb; have hb := blkAt_some hb
          have hu := (hT.ok t _ hte).slice rfl
          have he := hT.ok e te hTe
          obtain ⟨hnews, B, c', rfl, us, hus, haddr⟩ := srcD_spec hpos hsrc hc0 hS hx
          have hr := hs _ rfl
          simp only [Rd] at hr
          obtain ⟨hbN, A, cp, rfl, hncp, hcpm, hcap, hA⟩ := hr
          rw [Nat.zero_add] at hcap
          have hdrop : Drops H (H.set b none) := Drops.set H b
          have hlenS : (H.set b none).length = H.length := by simp
          have hNb : H.length < (H.set b none ++ [some (⟨e, blk.cs.take (n * te.size) ++ news, false⟩ : Blk)]).length := by simp
          rcases Nat.eq_zero_or_pos m with hm | hm
          · -- nothing is added
            subst hm
            have hn0 : news = [] := List.eq_nil_of_length_eq_zero (by rw [hnews]; simp)
            subst hn0
            have hrun := run_append_zero (P := P) (w := w) (ty := ty) hu he A B n cp c' hncp
            rcases Nat.eq_zero_or_pos cp with hcp | hcp
            · subst hcp
              have hn : n = 0 := by omega
              subst hn
              obtain ⟨h1, h2⟩ := (hS.drops hdrop).empty (ty := e) (full := false) (Grow.refl w)
              rw [hlenS] at h1 h2
              refine ⟨_, _, ext ρ H.length (0, 0), hrun, by simpa using h1, by simpa using hdrop.le.trans h2, ?_⟩
              simp only [Rd]
              refine ⟨by simp, A, 0, rfl, Nat.le_refl _, by omega, ?_, fun h => absurd h (by omega)⟩
              simp [ext_same]
            · have hz : 0 < (ρ b).2 := by
                have : 0 < cp * te.size := Nat.mul_pos hcp hpos
                omega
              obtain ⟨cur, hk⟩ := hS.blk b blk hb hz
              have hA := hA hcp
              subst hA
              have hnlive : ¬ Live ρ (H.set b none) (ρ b).1 := fun ⟨b', bl', hb', hz', e'⟩ => by
                by_cases hbb : b = b'
                · subst hbb; rw [List.getElem?_set_self (List.getElem?_eq_some_iff.1 hb).1] at hb'; cases hb'
                · exact hbb (hS.inj b b' _ _ hb (hdrop.2 _ _ hb') hz hz' e'.symm)
              have hh := hk.heap.cells hit
              simp only [ctx] at hh
              have hpl := hk.pre.length
              obtain ⟨h1, h2⟩ := hS.renew (H0 := H.set b none) (blk := ⟨e, blk.cs.take (n * te.size) ++ [], false⟩) (id := (ρ b).1) (cur := cur) (w' := w) he.ne hdrop (.inr ⟨b, blk, hb, hz, rfl⟩) hnlive (Nat.le_refl _) (fun _ _ _ => rfl) rfl rfl rfl
                (by rw [hh, hty]) (by
                  simp only [List.append_nil, List.length_take]
                  have e1 := hk.pre.take (n * te.size)
                  rw [List.take_take] at e1
                  rw [show min (n * te.size) blk.cs.length = n * te.size by omega] at e1 ⊢
                  exact e1) (fun h => by cases h) (by rw [hk.size]; exact hz)
              refine ⟨_, _, _, hrun, h1, h2, ?_⟩
              simp only [Rd]
              refine ⟨by simp, _, cp, rfl, hncp, hcpm, ?_, fun _ => ?_⟩
              · simp only [ext_same, Nat.zero_add]; rw [hcap, hk.size]
              · simp only [ctx, ext_same]
          · obtain ⟨ad, rfl, hcells⟩ := haddr hm
            obtain ⟨i, z, hi, hinfo, e1, e2, e3, e4⟩ := he.run_info w
            have hzs : z.cells.size = te.size := by rw [← Array.length_toList, e4, he.len]
            have husl : us.length = m * te.size := by rw [hus.length, hnews]
            rcases Nat.eq_zero_or_pos cp with hcp | hcp
            · subst hcp
              have hn : n = 0 := by omega
              subst hn
              rw [Nat.zero_add] at hbytes hmax
              have hown : w.ownsRow 0 e te.size (.slice none 0 0) 0 [] := World.ownsRow_nil w 0 e te.size
              obtain ⟨v', w', hrun, ho, hg, hv, hob⟩ := run_append_own_at (P := P) w 0 t ty e i z te.size te.bytes hu hinfo e3 e1 e2 hzs hpos _ 0 [] hown ad m c' us husl hcells hus.one (by omega) (by rw [Nat.zero_add]; exact hbytes) (Nat.zero_le _)
              rw [← run_append_cap0 (w := w) (ty := ty) hu he A (some ad) m c' hm hbytes hmax] at hrun
              rw [Nat.zero_add, List.nil_append] at ho
              obtain ⟨hol, ⟨rfl, h0⟩ | ⟨g, cap, cur, rfl, _, hh, hmc, hcm, hcs, htk⟩⟩ := ho
              · omega
              · have hgid : g = w.heap.size := by simpa [Value.ownBlock] using hob
                subst hgid
                obtain ⟨h1, h2⟩ := hS.renew (H0 := H.set b none) (blk := ⟨e, blk.cs.take (0 * te.size) ++ news, false⟩) (id := w.heap.size) (cur := cur) (w' := w') he.ne hdrop (.inl (Nat.le_refl _)) (fun hl => by
                    have := (hS.drops hdrop).lt hl; omega) hg.size (fun k hk _ => hg.block k hk (by simp [Value.ownBlock])) hg.os hg.tape hg.output hh (by
                  simp only [Nat.zero_mul, List.take_zero, List.nil_append, hnews, htk]; exact hus) (fun h => by cases h) (by rw [hcs]; exact Nat.mul_pos (by omega) hpos)
                refine ⟨_, _, _, hrun, h1, h2, ?_⟩
                simp only [Rd]
                refine ⟨by simp, _, cap, by rw [Nat.zero_add], by omega, hcm, ?_, fun _ => ?_⟩
                · simp only [ctx, ext_same, Nat.zero_add, hcs]
                · simp only [ctx, ext_same]
            · have hz : 0 < (ρ b).2 := by
                have : 0 < cp * te.size := Nat.mul_pos hcp hpos
                omega
              obtain ⟨cur, hk⟩ := hS.blk b blk hb hz
              have hA := hA hcp
              subst hA
              have hh := hk.heap.cells hit
              simp only [ctx] at hh hcap
              have hnlive : ¬ Live ρ (H.set b none) (ρ b).1 := fun ⟨b', bl', hb', hz', e'⟩ => by
                by_cases hbb : b = b'
                · subst hbb; rw [List.getElem?_set_self (List.getElem?_eq_some_iff.1 hb).1] at hb'; cases hb'
                · exact hbb (hS.inj b b' _ _ hb (hdrop.2 _ _ hb') hz hz' e'.symm)
              have hpl := hk.pre.length
              have hmul : n * te.size ≤ cp * te.size := Nat.mul_le_mul_right _ hncp
              have hown : w.ownsRow 0 e te.size (.slice (some ⟨(ρ b).1, 0, none⟩) n cp) n (cur.toList.take (n * te.size)) :=
                ⟨by have := hk.size; simp; omega, .inr ⟨(ρ b).1, cp, cur, rfl, Nat.zero_le _, by rw [hh, hty], hncp, hcpm, by rw [hk.size, hcap], rfl⟩⟩
              obtain ⟨v', w', hrun, ho, hg, hv, hob⟩ := run_append_own_at (P := P) w 0 t ty e i z te.size te.bytes hu hinfo e3 e1 e2 hzs hpos _ n _ hown ad m c' us husl hcells hus.one hmax hbytes (Nat.zero_le _)
              obtain ⟨hol, ⟨rfl, h0⟩ | ⟨g, cap, cur', rfl, _, hh', hmc, hcm, hcs, htk⟩⟩ := ho
              · omega
              · have hgid : g = (ρ b).1 ∨ g = w.heap.size := by simpa [Value.ownBlock] using hob
                have hlive : w.heap.size ≤ g ∨ Live ρ H g := by
                  rcases hgid with rfl | rfl
                  · exact .inr ⟨b, blk, hb, hz, rfl⟩
                  · exact .inl (Nat.le_refl _)
                have hnl2 : ¬ Live ρ (H.set b none) g := by
                  rcases hgid with rfl | rfl
                  · exact hnlive
                  · intro hl; have := (hS.drops hdrop).lt hl; omega
                have hcells' : RdL (ctx ρ S w H) (blk.cs.take (n * te.size) ++ news) (cur'.toList.take (blk.cs.take (n * te.size) ++ news).length) := by
                  have e5 : (blk.cs.take (n * te.size) ++ news).length = (n + m) * te.size := by
                    rw [List.length_append, hnews, Nat.add_mul]; simp; omega
                  rw [e5, htk]
                  refine RdL.append _ _ _ _ ?_ hus
                  have e1 := hk.pre.take (n * te.size)
                  rw [List.take_take, show min (n * te.size) blk.cs.length = n * te.size by omega] at e1
                  exact e1
                rcases hgid with rfl | hgid
                · obtain ⟨h1, h2⟩ := hS.renew (H0 := H.set b none) (blk := ⟨e, blk.cs.take (n * te.size) ++ news, false⟩) (id := (ρ b).1) (cur := cur') (w' := w') he.ne hdrop hlive hnl2 hg.size
                    (fun k hk hne => hg.block k hk (by simp [Value.ownBlock]; exact hne)) hg.os hg.tape hg.output hh' hcells' (fun h => by cases h) (by rw [hcs]; exact Nat.mul_pos (by omega) hpos)
                  refine ⟨_, _, _, hrun, h1, h2, ?_⟩
                  simp only [Rd]
                  refine ⟨by simp, _, cap, rfl, by omega, hcm, ?_, fun _ => ?_⟩
                  · simp only [ctx, ext_same, Nat.zero_add, hcs]
                  · simp only [ctx, ext_same]
                · -- a new row; the old one may have been written beyond its length: it is given up
                  subst hgid
                  have hdl : (ctx ρ S w H).le (ctx (ext ρ H.length (w.heap.size, cur'.size)) S w' (H.set b none ++ [some ⟨e, blk.cs.take (n * te.size) ++ news, false⟩])) :=
                    ⟨by simp, fun b hb => ext_lt ρ _ hb, fun _ h => h, fun k hk' => hg.block k (hS.sub k hk').1 (by simp [Value.ownBlock]; intro e'; exact (hS.sub k hk').2 ⟨b, blk, hb, hz, e'.symm⟩), fun _ h => .inl h, fun k hk => ⟨Nat.lt_of_lt_of_le hk.1 hg.size, fun ⟨b', bl, hb', hz', e'⟩ => by
                      dsimp only at hb' hz' e'
                      rcases getElem?_snoc_cases hb' with ⟨hlt, hb'⟩ | ⟨rfl, hx'⟩
                      · rw [hlenS] at hlt
                        rw [ext_lt ρ _ hlt] at e' hz'; exact hk.2 ⟨b', bl, hdrop.2 _ _ hb', hz', e'⟩
                      · rw [hlenS, ext_same] at e'; have hk1 : k < w.heap.size := hk.1; simp only at e'; omega⟩,
                      fun k hk' => hg.block k hk'.1 (by simp [Value.ownBlock]; intro e'; exact hk'.2 ⟨b, blk, hb, hz, e'.symm⟩), hg.size, hg.os, hg.tape, hg.output⟩
                  refine ⟨_, _, ext ρ H.length (w.heap.size, cur'.size), hrun, ?_, hdl, ?_⟩
                  · refine ⟨fun k hk => hdl.fix k (hS.sub k hk), fun b' bl hb' hz' => ?_, fun b' bl hb' hz' => ?_, fun b' b'' bl bl' hb' hb'' hz' hz'' e' => ?_, hS.glob.mono (fun _ h => h) hdl.keep⟩
                    · rcases getElem?_snoc_cases hb' with ⟨hlt, hb'⟩ | ⟨rfl, hx'⟩
                      · rw [hlenS] at hlt; rw [ext_lt ρ _ hlt] at hz'; exact hS.none b' bl (hdrop.2 _ _ hb') hz'
                      · rw [hlenS, ext_same] at hz'; simp only at hz'; rw [hcs] at hz'
                        have : 0 < cap * te.size := Nat.mul_pos (by omega) hpos
                        omega
                    · rcases getElem?_snoc_cases hb' with ⟨hlt, hb'⟩ | ⟨rfl, hx'⟩
                      · rw [hlenS] at hlt
                        rw [ext_lt ρ _ hlt] at hz' ⊢
                        obtain ⟨cu, hcu⟩ := hS.blk b' bl (hdrop.2 _ _ hb') hz'
                        exact ⟨cu, hcu.heap.of (hg.block _ hcu.lt (by simp [Value.ownBlock]; intro e'; exact hnlive ⟨b', bl, hb', hz', e'⟩)), hcu.size, hcu.pre.mono hdl _ _, hcu.full⟩
                      · injection hx' with hx'; subst hx'
                        rw [hlenS, ext_same]
                        exact ⟨cur', .inl ⟨he.ne, hh'⟩, rfl, hcells'.mono hdl _ _, fun h => by cases h⟩
                    · rcases getElem?_snoc_cases hb' with ⟨hlt, hb'⟩ | ⟨rfl, hx'⟩ <;> rcases getElem?_snoc_cases hb'' with ⟨hlt', hb''⟩ | ⟨rfl, hx''⟩
                      · rw [hlenS] at hlt hlt'
                        rw [ext_lt ρ _ hlt] at e' hz'; rw [ext_lt ρ _ hlt'] at e' hz''; exact hS.inj b' b'' bl bl' (hdrop.2 _ _ hb') (hdrop.2 _ _ hb'') hz' hz'' e'
                      · rw [hlenS] at hlt
                        rw [ext_lt ρ _ hlt] at e' hz'; rw [hlenS, ext_same] at e'
                        exact absurd ⟨b', bl, hb', hz', e'⟩ hnl2
                      · rw [hlenS] at hlt'
                        rw [ext_lt ρ _ hlt'] at e' hz''; rw [hlenS, ext_same] at e'
                        exact absurd ⟨b'', bl', hb'', hz'', e'.symm⟩ hnl2
                      · rfl
                  · simp only [Rd]
                    refine ⟨by simp, _, cap, rfl, by omega, hcm, ?_, fun _ => ?_⟩
                    · simp only [ctx, ext_same, Nat.zero_add, hcs]
                    · simp only [ctx, ext_same]
        · unfold srcStr at h
          split at h
          · rename_i s0
            have hx0 := hx _ rfl
            simp only [Rd] at hx0
            subst hx0
            exact appendS_sound hT ((hT.ok t _ hte).slice rfl) hTe hb h hc hS (hs _ rfl)
          · cases h
      · cases h
    · cases h
  · split at h
    · rename_i t0 t0' e _ _ _ he0 he0' hte
      injection he0 with he0; subst he0
      injection he0' with he0'; subst he0'
      split at h
      · rename_i te hTe
        split at h
        · rename_i m news c hsrc
          injection h with h; subst h
          obtain ⟨hc0, rfl, hpos, hmax, hbytes⟩ := hc
          have hu := (hT.ok t _ hte).slice rfl
          have he := hT.ok e te hTe
          obtain ⟨hnews, B, c', rfl, us, hus, haddr⟩ := srcD_spec hpos hsrc hc0 hS hx
          have hr := hs _ rfl
          simp only [Rd] at hr
          subst hr
          rcases Nat.eq_zero_or_pos m with hm | hm
          · subst hm
            have hn0 : news = [] := List.eq_nil_of_length_eq_zero (by rw [hnews]; simp)
            subst hn0
            have hrun := run_append_zero (P := P) (w := w) (ty := ty) hu he none B 0 0 c' (Nat.le_refl _)
            obtain ⟨h1, h2⟩ := hS.empty (ty := e) (full := false) (Grow.refl w)
            refine ⟨_, _, ext ρ H.length (0, 0), hrun, h1, h2, ?_⟩
            simp only [Rd]
            refine ⟨by simp, none, 0, rfl, Nat.le_refl _, Nat.zero_le _, ?_, fun h => absurd h (by omega)⟩
            simp [ext_same]
          · obtain ⟨ad, rfl, hcells⟩ := haddr hm
            obtain ⟨i, z, hi, hinfo, e1, e2, e3, e4⟩ := he.run_info w
            have hzs : z.cells.size = te.size := by rw [← Array.length_toList, e4, he.len]
            have husl : us.length = m * te.size := by rw [hus.length, hnews]
            have hown : w.ownsRow 0 e te.size (.slice none 0 0) 0 [] := World.ownsRow_nil w 0 e te.size
            obtain ⟨v', w', hrun, ho, hg, hv, hob⟩ := run_append_own_at (P := P) w 0 t ty e i z te.size te.bytes hu hinfo e3 e1 e2 hzs hpos _ 0 [] hown ad m c' us husl hcells hus.one (by omega) (by rw [Nat.zero_add]; exact hbytes) (Nat.zero_le _)
            rw [Nat.zero_add, List.nil_append] at ho
            obtain ⟨hol, ⟨rfl, h0⟩ | ⟨g, cap, cur, rfl, _, hh, hmc, hcm, hcs, htk⟩⟩ := ho
            · omega
            · have hgid : g = w.heap.size := by simpa [Value.ownBlock] using hob
              subst hgid
              obtain ⟨h1, h2⟩ := hS.renew (H0 := H) (blk := ⟨e, news, false⟩) (id := w.heap.size) (cur := cur) (w' := w') he.ne (Drops.refl H) (.inl (Nat.le_refl _)) (fun hl => by
                  have := hS.lt hl; omega) hg.size (fun k hk _ => hg.block k hk (by simp [Value.ownBlock])) hg.os hg.tape hg.output hh (by
                simp only [hnews, htk]; exact hus) (fun h => by cases h) (by rw [hcs]; exact Nat.mul_pos (by omega) hpos)
              refine ⟨_, _, _, hrun, h1, h2, ?_⟩
              simp only [Rd]
              refine ⟨by simp, _, cap, rfl, by omega, hcm, ?_, fun _ => ?_⟩
              · simp only [ctx, ext_same, Nat.zero_add, hcs]
              · simp only [ctx, ext_same]
        · cases h
      · cases h
    · cases h
  · cases h
end
end Go.VD
end
section
namespace Go.VD
set_option linter.unusedVariables false
set_option linter.unusedSimpArgs false
theorem run_getObj_it {P : Program} {w : World} {r : Nat} {s : ByteArray} {n : Nat} (h : w.heap[r]? = some (.stringIter s n)) : (getObj r).run P w = .ok (.stringIter s n) w := by
  simp [getObj, Sem.run, h]
theorem run_setObj_it {P : Program} {w : World} {r : Nat} {s : ByteArray} {n : Nat} (o : Obj) (h : w.heap[r]? = some (.stringIter s n)) : (setObj r o).run P w = .ok () { w with heap := w.heap.setIfInBounds r o } := by
  simp [setObj, Sem.run, h]
section
variable {P : Program} {T : Tbl} (hT : TblOk P T) {ρ : Nat → Nat × Nat} {S : Nat → Prop} {w : World} {H : Heap}
include hT
theorem opH_sound {o : Oper} {env : Env} {a : Act} {out : HOut} (h : opH T env H o.op = some out) (hc : out.c) (hS : St ρ S w H) (hg : ∀ x d, opnd env x = some d → Rd (ctx ρ S w H) d (a.eval x)) :
    Gives P o a ρ S w H out.H out.d := by
  obtain ⟨dst, op, ty, pos, after, guard⟩ := o
  simp only at h
  cases op
  case range t x =>
    simp only [opH, rangeH] at h
    split at h
    · rename_i s hx
      split at h
      · rename_i hts
        injection h with h; subst h
        have hv := hg x _ hx
        simp only [Rd] at hv
        have hu := (hT.ok t _ hts).str rfl
        refine ⟨.pointer (some ⟨w.heap.size, 0, none⟩), w.alloc (.stringIter s 0), ext ρ H.length (w.heap.size, 2), .inl ?_,
          hS.newR (cur := #[.string s, .int .i64 0]) (Grow.alloc w _) (Nat.le_refl _) (.inr ⟨s, 0, rfl, rfl, by decide, heap_new w _⟩) ?_ (fun _ => rfl), le_new (fun k hk => (hS.sub k hk).1) (Grow.alloc w _) (Nat.le_refl _), rd_ptr (by simp) (ext_same _ _ _)⟩
        · simp [execOp, Instr.range, run_underlying hu, hv]
        · simp only [itBlk, RdL, Rd]; exact ⟨_, _, rfl, rfl, rfl, _, _, rfl, rfl, rfl, rfl⟩
      · cases h
    · cases h
  case next it isString =>
    cases isString with
    | false => simp [opH] at h
    | true =>
      simp only [opH, nextH] at h
      split at h
      · rename_i b hx
        split at h
        · rename_i s n hit
          injection h with h; subst h
          have hb := iterAt_some hit
          have hr := hg it _ hx
          simp only [Rd] at hr
          have hz : 0 < (ρ b).2 := by
            refine Nat.pos_of_ne_zero fun h0 => ?_
            have := hS.none b _ hb h0
            cases this
          obtain ⟨cur, hk⟩ := hS.blk b _ hb hz
          obtain ⟨s', n', e1, e2, hn, hh⟩ := hk.heap.iter rfl
          simp only [Blk.mk.injEq, List.cons.injEq, D.v.injEq, Value.string.injEq, Value.int.injEq, true_and, and_true] at e1
          obtain ⟨rfl, rfl⟩ := e1
          have hh : w.heap[(ρ b).1]? = some (.stringIter s n.toNat) := hh
          have hsz : (ρ b).2 = 2 := by rw [← hk.size, e2]; rfl
          have hptr : a.eval it = .pointer (some ⟨(ρ b).1, 0, none⟩) := by simpa using hr.2
          have hlt : (ρ b).1 < w.heap.size := (Array.getElem?_eq_some_iff.1 hh).1
          by_cases hp : n.toNat < s.size
          · rw [decide_eq_true hp]
            have hsize : ({ w with heap := w.heap.setIfInBounds (ρ b).1 (.stringIter s (n.toNat + (Utf8.decode s n.toNat).2)) } : World).heap.size = w.heap.size := by simp
            have hother : ∀ k, k ≠ (ρ b).1 → ({ w with heap := w.heap.setIfInBounds (ρ b).1 (.stringIter s (n.toNat + (Utf8.decode s n.toNat).2)) } : World).heap[k]? = w.heap[k]? := fun k hk => by
              simp [Array.getElem?_setIfInBounds, Ne.symm hk]
            refine ⟨.tuple #[.bool true, .int .i64 n, .int .i32 ((Utf8.decode s n.toNat).1 : Nat)], { w with heap := w.heap.setIfInBounds (ρ b).1 (.stringIter s (n.toNat + (Utf8.decode s n.toNat).2)) }, ρ, .inl ?_,
              hS.writeR (blk' := ⟨itTy, [.v (.string s), .v (.int .i64 ((n.toNat + (Utf8.decode s n.toNat).2 : Nat) : Int))], true⟩) (cur := #[.string s, .int .i64 ((n.toNat + (Utf8.decode s n.toNat).2 : Nat) : Int)]) hb hz hsize hother rfl rfl rfl
                (.inr ⟨s, _, rfl, rfl, Int.natCast_nonneg _, ?_⟩) (by rw [hsz]; rfl) ?_ (fun _ => rfl), le_write hS.sub hb hz hsize hother rfl rfl rfl, ?_⟩
            · have : ((n.toNat : Nat) : Int) = n := by omega
              simp [execOp, Instr.next, hptr, run_getObj_it hh, run_setObj_it _ hh, hp, goInt, this]
            · rw [Int.toNat_natCast]; simp [hlt]
            · simp only [itBlk, RdL, Rd]; exact ⟨_, _, rfl, rfl, rfl, _, _, rfl, rfl, rfl, rfl⟩
            · simp [nextD, Rd, RdT]
          · rw [decide_eq_false hp]
            have hset : H.set b (itBlk s (nextN s n false)) = H := by
              refine List.ext_getElem? fun i => ?_
              by_cases hi : b = i
              · subst hi; rw [List.getElem?_set_self (List.getElem?_eq_some_iff.1 hb).1, hb]; rfl
              · rw [List.getElem?_set_ne hi]
            rw [hset]
            refine ⟨.tuple #[.bool false], w, ρ, .inl ?_, hS, Ctx.le.refl _, ?_⟩
            · simp [execOp, Instr.next, hptr, run_getObj_it hh, hp]
            · simp [nextD, Rd, RdT]
        · cases h
      · cases h
  case convert s d x =>
    obtain ⟨e, v, h1, h2⟩ := bytes_sound hT h hc hS (fun d' e => hg x d' e)
    rw [e]
    exact ⟨v, w, ρ, .inl (by simp [execOp, h1]), hS, Ctx.le.refl _, h2⟩
  case box elem x =>
    simp only [opH, boxH] at h
    split at h
    · rename_i cs hcs
      cases hbe : Nat.beq elem itTy with
      | true => rw [hbe] at h; cases h
      | false =>
      rw [hbe] at h
      injection h with h; subst h
      have hne : elem ≠ itTy := Nat.ne_of_beq_eq_false hbe
      cases hx : opnd env x with
      | none => simp [hx] at hcs
      | some dx =>
        simp only [hx, Option.bind_some] at hcs
        have hl := cellsD_rd hcs (hg x dx hx)
        obtain ⟨ρ', h1, h2, h3⟩ := new_block (ty := elem) hne hS hl
        exact ⟨_, _, ρ', .inl (by simp [execOp, Instr.box, newVar, newRow]), h1, h2, rd_ptr (by simp) h3⟩
    · cases h
  case alloc elem =>
    simp only [opH] at h
    split at h
    · rename_i ti hti
      injection h with h; subst h
      obtain ⟨z, hz1, hz2⟩ := (hT.ok elem ti hti).run_zero
      have hl : RdL (ctx ρ S w H) (ti.zero.map .v) z.cells.toList := by
        rw [hz1]; exact RdL.scalars _ _ (by rw [List.all_eq_true]; exact (hT.ok elem ti hti).one)
      obtain ⟨ρ', h1, h2, h3⟩ := new_block (ty := elem) (hT.ok elem ti hti).ne hS hl
      refine ⟨.pointer (some ⟨w.heap.size, 0, none⟩), _, ρ', .inl ?_, h1, h2, rd_ptr (by simp) h3⟩
      simp [execOp, Instr.alloc, hz2, newVar, newRow]
    · cases h
  case load t x =>
    simp only [opH, loadH] at h
    split at h
    · rename_i b off hx
      split at h
      · rename_i blk ti hb ht
        injection h with h; subst h
        have hr := hg x _ hx
        simp only [Rd] at hr
        obtain ⟨v, h1, h2⟩ := load_blk (P := P) hS (blkAt_some hb) (blkAt_ty hb) (hT.ok t ti ht) hc
        refine ⟨v, w, ρ, .inl ?_, hS, Ctx.le.refl _, h2⟩
        simp [execOp, Instr.loadAt, hr.2, Instr.sureAddr, h1]
      · cases h
    · cases h
  case store t x y =>
    simp only [opH, storeH] at h
    split at h
    · rename_i b off hx
      split at h
      · rename_i blk ti ys hb ht hys
        injection h with h; subst h
        cases hy : opnd env y with
        | none => simp [hy] at hys
        | some dy =>
          simp only [hy, Option.bind_some] at hys
          have hl := cellsD_rd hys (hg y dy hy)
          have hr := hg x _ hx
          simp only [Rd, ctx] at hr
          obtain ⟨w', h1, h2, h3⟩ := store_blk (P := P) hS (blkAt_some hb) (blkAt_ty hb) (hT.ok t ti ht) hl hc.1 hc.2
          refine ⟨undef, w', ρ, .inr ⟨?_, rfl⟩, h2, h3, by simp [Rd]⟩
          simp [execOp, Instr.storeAt, hr.2, Instr.sureAddr, h1]
      · cases h
    · cases h
  case makeSlice t l c =>
    simp only [opH, makeH] at h
    split at h
    · rename_i k n k' m hl hcap
      split at h
      · rename_i e _ _ _ ht
        split at h
        · rename_i ti hte
          injection h with h; subst h
          obtain ⟨h0, hnm, hb, h63⟩ := hc
          have hl' := hg l _ hl
          have hc' := hg c _ hcap
          simp only [Rd] at hl' hc'
          obtain ⟨i, z, hi, hinfo, e1, e2, e3, e4⟩ := (hT.ok e ti hte).run_info w
          have hrun := run_make (P := P) w t e i z ((hT.ok t _ ht).slice rfl) hinfo e3 k k' n m h0 hnm (by rw [e2]; exact hb) h63
          rw [e1] at hrun
          have hl : RdL (ctx ρ S w H) (makeD ti.zero m.toNat) (madeCells z.cells (m.toNat * ti.size)).toList := makeD_rd (hT.ok e ti hte) e4 _
          obtain ⟨ρ', h1, h2, h3⟩ := new_block (ty := e) (hT.ok e ti hte).ne hS hl
          refine ⟨.slice (some ⟨w.heap.size, 0, none⟩) n.toNat m.toNat, _, ρ', .inl ?_, h1, h2, ?_⟩
          · simp only [execOp, hl', hc', Sem.run_bind, hrun, Result.andThen_ok, Sem.run_pure]
          · simp only [Rd]
            refine ⟨by simp, _, m.toNat, rfl, by omega, by simp only [maxLen]; omega, ?_, fun _ => ?_⟩
            · simp [h3, size_madeCells]
            · simp [h3]
        · cases h
      · cases h
    · cases h
  case buildSlice t len parts =>
    simp only [opH, buildSliceH] at h
    split at h
    · rename_i e _ _ _ ht
      split at h
      · rename_i ti hte
        split at h
        · rename_i cs hcs
          injection h with h; subst h
          obtain ⟨z, hz1, hz2⟩ := (hT.ok e ti hte).run_zero
          have hl0 : RdL (ctx ρ S w H) (makeD ti.zero len) (madeCells z.cells (len * ti.size)).toList := makeD_rd (hT.ok e ti hte) hz1 _
          obtain ⟨ws, h1, h2⟩ := fill_sound (E := ctx ρ S w H) hg parts.toList _ _ _ hcs hl0
          have hlen : ws.size = len * ti.size := by
            have h3 := h2.length
            have h4 := hl0.length
            have h5 : cs.length = (makeD ti.zero len).length := by
              have : ∀ (ps : List (Nat × Operand)) (l : List D) (out : List D), fillD (fun i => some (i * ti.size, ti.size)) env l ps = some out → out.length = l.length := by
                intro ps
                induction ps with
                | nil => intro l out h; simp only [fillD] at h; injection h with h; subst h; rfl
                | cons p ps ih =>
                  intro l out h
                  obtain ⟨i, x⟩ := p
                  simp only [fillD] at h
                  split at h
                  · split at h
                    · rw [ih _ _ h, setAll_length]
                    · cases h
                  · cases h
              exact this _ _ _ hcs
            simp only [Array.length_toList, size_madeCells] at h3 h4
            omega
          obtain ⟨ρ', h3, h4, h5⟩ := new_block (ty := e) (hT.ok e ti hte).ne hS h2
          refine ⟨.slice (some ⟨w.heap.size, 0, none⟩) len len, _, ρ', .inl ?_, h3, h4, ?_⟩
          · have hbig : ¬ (16777216 < len * ti.size) := by have : len * ti.size ≤ 16777216 := hc.1; omega
            have hparts : (parts.map fun (p : Nat × Operand) => (p.1, a.eval p.2)).toList = parts.toList.map fun p => (p.1, a.eval p.2) := by simp
            by_cases h0 : len * ti.size = 0
            · have hm : madeCells z.cells (len * ti.size) = #[] := by rw [h0]; simp [madeCells, Array.range_zero']
              rw [hm] at h1
              simp only [execOp, Instr.buildSlice, Sem.run_bind, run_underlying ((hT.ok t _ ht).slice rfl), Result.andThen_ok, (hT.ok e ti hte).run_size]
              rw [if_neg (by simpa using hbig)]
              simp only [h0, if_true, Sem.run_bind, Sem.run_pure, Result.andThen_ok, Array.range_zero', Array.map_empty]
              rw [hparts, h1]
              simp [newRow]
            · simp only [execOp, Instr.buildSlice, Sem.run_bind, run_underlying ((hT.ok t _ ht).slice rfl), Result.andThen_ok, (hT.ok e ti hte).run_size]
              rw [if_neg (by simpa using hbig)]
              simp only [h0, if_false, Sem.run_bind, Sem.run_pure, Result.andThen_ok, hz2]
              have hm : Array.map (fun x => z.cells[x % z.cells.size]!) (Array.range (len * ti.size)) = madeCells z.cells (len * ti.size) := rfl
              rw [hm, hparts, h1]
              simp [newRow]
          · simp only [Rd]
            refine ⟨by simp, _, len, rfl, Nat.le_refl _, ?_, ?_, fun _ => ?_⟩
            · exact hc.2
            · simp [h5, hlen]
            · simp [h5]
        · cases h
      · cases h
    · cases h
  case call cl =>
    obtain ⟨callee, args, argTypes⟩ := cl
    cases callee with
    | value f => simp [opH] at h
    | invoke r m => simp [opH] at h
    | builtin b =>
      cases b
      case append =>
        simp only [opH] at h
        split at h
        · rename_i s x hargs
          have e1 : args = #[s, x] := by rw [← Array.toList_inj, hargs]
          subst e1
          obtain ⟨ts⟩ := argTypes
          have hts : ∃ t t', ts[0]? = some t ∧ ts[1]? = some t' := by
            simp only [appendH] at h
            cases h0 : ts[0]? with
            | none => split at h <;> simp [h0] at h
            | some t =>
              cases h1 : ts[1]? with
              | none => split at h <;> simp [h0, h1] at h
              | some t' => exact ⟨t, t', rfl, rfl⟩
          obtain ⟨t, t', h0, h1⟩ := hts
          simp only [h0, h1, Option.bind_some] at h
          obtain ⟨v, w', ρ', hrun, hS', hle, hrd⟩ := append_sound (ty := ty) hT h hc hS (fun d e => hg s d e) (fun d e => hg x d e)
          refine ⟨v, w', ρ', .inl ?_, hS', hle, hrd⟩
          have hbi : ∀ (ts' : Array TypeId), ts'[0]? = some t → ts'[1]? = some t' → (Builtin.append_ ts' ty #[a.eval s, a.eval x]).run P w = (Builtin.append_ #[t, t'] ty #[a.eval s, a.eval x]).run P w := by
            intro ts' q0 q1
            simp only [Builtin.append_, q0, q1]
            rfl
          simp only [execOp, resolve, invoke, builtin, Sem.run_bind, Sem.run_pure, Result.andThen_ok, List.map_toArray, List.map_cons, List.map_nil]
          rw [hbi _ (by simpa using h0) (by simpa using h1), hrun]
          rfl
        · cases h
      all_goals (simp [opH] at h)
  all_goals (simp [opH] at h)
end
theorem opH_congr {T : Tbl} {env env' : Env} {H : Heap} {op : Op} (h : ∀ t ∈ opSlots op, env.lookup t = env'.lookup t) : opH T env H op = opH T env' H op := by
  have hx := get_of_lookup h
  cases op
  case range t x => simp only [opH, hx x (by simp [Op.operands])]
  case next it b =>
    cases b with
    | false => rfl
    | true => simp only [opH, hx it (by simp [Op.operands])]
  case box elem x => simp only [opH, hx x (by simp [Op.operands])]
  case convert s d x => simp only [opH, hx x (by simp [Op.operands])]
  case load t x => simp only [opH, hx x (by simp [Op.operands])]
  case store t x y => simp only [opH, hx x (by simp [Op.operands]), hx y (by simp [Op.operands])]
  case makeSlice t l c => simp only [opH, hx l (by simp [Op.operands]), hx c (by simp [Op.operands])]
  case buildSlice t len parts =>
    have : ∀ p ∈ parts.toList, opnd env p.2 = opnd env' p.2 := fun p hp => hx p.2 (by simp only [Op.operands, List.toList_toArray, List.mem_map]; exact ⟨p, hp, rfl⟩)
    simp only [opH, buildSliceH, fillD_congr parts.toList _ this]
  case call c =>
    obtain ⟨callee, args, ts⟩ := c
    cases callee with
    | value f => rfl
    | invoke r m => rfl
    | builtin b =>
      have : ∀ x ∈ args.toList, opnd env x = opnd env' x := fun x hm => hx x (by simpa [Op.operands, Call.operands] using hm)
      cases b <;> simp only [opH]
      generalize args.toList = l at this ⊢
      split
      · rename_i s x
        rw [this s (by simp), this x (by simp)]
      · rfl
  all_goals rfl
end Go.VD
end
