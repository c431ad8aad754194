/- The theorem over all operations on the call's own blocks; one step on data, whatever the operation. -/
import Derived.Test.YthnhfkpihbjddaaVi
namespace Go.VD
set_option linter.unusedVariables false
set_option linter.unusedSimpArgs false

theorem run_getObj_it {P : Program} {w : World} {r : Nat} {s : ByteArray} {n : Nat} (h : w.heap[r]? = some (.stringIter s n)) : (getObj r).run P w = .ok (.stringIter s n) w := by
  simp [getObj, Sem.run, h]
theorem run_setObj_it {P : Program} {w : World} {r : Nat} {s : ByteArray} {n : Nat} (o : Obj) (h : w.heap[r]? = some (.stringIter s n)) : (setObj r o).run P w = .ok () { w with heap := w.heap.setIfInBounds r o } := by
  simp [setObj, Sem.run, h]
section
variable {P : Program} {T : Tbl} (hT : TblOk P T) {ρ : Nat → Nat × Nat} {S : Nat → Prop} {w : World} {H : Heap}
include hT

theorem opH_sound {o : Oper} {env : Env} {a : Act} {out : HOut} (h : opH T env H o.op = some out) (hc : out.c) (hS : St ρ S w H) (hg : ∀ x d, opnd env x = some d → Rd (ctx ρ S w H) d (a.eval x)) :
    Gives P o a ρ S w H out.H out.d := by
  obtain ⟨dst, op, ty, pos, after, guard⟩ := o
  simp only at h
  cases op
  case range t x =>
    simp only [opH, rangeH] at h
    split at h
    · rename_i s hx
      split at h
      · rename_i hts
        injection h with h; subst h
        have hv := hg x _ hx
        simp only [Rd] at hv
        have hu := (hT.ok t _ hts).str rfl
        refine ⟨.pointer (some ⟨w.heap.size, 0, none⟩), w.alloc (.stringIter s 0), ext ρ H.length (w.heap.size, 2), .inl ?_,
          hS.newR (cur := #[.string s, .int .i64 0]) (Grow.alloc w _) (Nat.le_refl _) (.inr ⟨s, 0, rfl, rfl, by decide, heap_new w _⟩) ?_ (fun _ => rfl), le_new (fun k hk => (hS.sub k hk).1) (Grow.alloc w _) (Nat.le_refl _), rd_ptr (by simp) (ext_same _ _ _)⟩
        · simp [execOp, Instr.range, run_underlying hu, hv]
        · simp only [itBlk, RdL, Rd]; exact ⟨_, _, rfl, rfl, rfl, _, _, rfl, rfl, rfl, rfl⟩
      · cases h
    · cases h
  case next it isString =>
    cases isString with
    | false => simp [opH] at h
    | true =>
      simp only [opH, nextH] at h
      split at h
      · rename_i b hx
        split at h
        · rename_i s n hit
          injection h with h; subst h
          have hb := iterAt_some hit
          have hr := hg it _ hx
          simp only [Rd] at hr
          have hz : 0 < (ρ b).2 := by
            refine Nat.pos_of_ne_zero fun h0 => ?_
            have := hS.none b _ hb h0
            cases this
          obtain ⟨cur, hk⟩ := hS.blk b _ hb hz
          obtain ⟨s', n', e1, e2, hn, hh⟩ := hk.heap.iter rfl
          simp only [Blk.mk.injEq, List.cons.injEq, D.v.injEq, Value.string.injEq, Value.int.injEq, true_and, and_true] at e1
          obtain ⟨rfl, rfl⟩ := e1
          have hh : w.heap[(ρ b).1]? = some (.stringIter s n.toNat) := hh
          have hsz : (ρ b).2 = 2 := by rw [← hk.size, e2]; rfl
          have hptr : a.eval it = .pointer (some ⟨(ρ b).1, 0, none⟩) := by simpa using hr.2
          have hlt : (ρ b).1 < w.heap.size := (Array.getElem?_eq_some_iff.1 hh).1
          by_cases hp : n.toNat < s.size
          · rw [decide_eq_true hp]
            have hsize : ({ w with heap := w.heap.setIfInBounds (ρ b).1 (.stringIter s (n.toNat + (Utf8.decode s n.toNat).2)) } : World).heap.size = w.heap.size := by simp
            have hother : ∀ k, k ≠ (ρ b).1 → ({ w with heap := w.heap.setIfInBounds (ρ b).1 (.stringIter s (n.toNat + (Utf8.decode s n.toNat).2)) } : World).heap[k]? = w.heap[k]? := fun k hk => by
              simp [Array.getElem?_setIfInBounds, Ne.symm hk]
            refine ⟨.tuple #[.bool true, .int .i64 n, .int .i32 ((Utf8.decode s n.toNat).1 : Nat)], { w with heap := w.heap.setIfInBounds (ρ b).1 (.stringIter s (n.toNat + (Utf8.decode s n.toNat).2)) }, ρ, .inl ?_,
              hS.writeR (blk' := ⟨itTy, [.v (.string s), .v (.int .i64 ((n.toNat + (Utf8.decode s n.toNat).2 : Nat) : Int))], true⟩) (cur := #[.string s, .int .i64 ((n.toNat + (Utf8.decode s n.toNat).2 : Nat) : Int)]) hb hz hsize hother rfl rfl rfl
                (.inr ⟨s, _, rfl, rfl, Int.natCast_nonneg _, ?_⟩) (by rw [hsz]; rfl) ?_ (fun _ => rfl), le_write hS.sub hb hz hsize hother rfl rfl rfl, ?_⟩
            · have : ((n.toNat : Nat) : Int) = n := by omega
              simp [execOp, Instr.next, hptr, run_getObj_it hh, run_setObj_it _ hh, hp, goInt, this]
            · rw [Int.toNat_natCast]; simp [hlt]
            · simp only [itBlk, RdL, Rd]; exact ⟨_, _, rfl, rfl, rfl, _, _, rfl, rfl, rfl, rfl⟩
            · simp [nextD, Rd, RdT]
          · rw [decide_eq_false hp]
            have hset : H.set b (itBlk s (nextN s n false)) = H := by
              refine List.ext_getElem? fun i => ?_
              by_cases hi : b = i
              · subst hi; rw [List.getElem?_set_self (List.getElem?_eq_some_iff.1 hb).1, hb]; rfl
              · rw [List.getElem?_set_ne hi]
            rw [hset]
            refine ⟨.tuple #[.bool false], w, ρ, .inl ?_, hS, Ctx.le.refl _, ?_⟩
            · simp [execOp, Instr.next, hptr, run_getObj_it hh, hp]
            · simp [nextD, Rd, RdT]
        · cases h
      · cases h
  case convert s d x =>
    obtain ⟨e, v, h1, h2⟩ := bytes_sound hT h hc hS (fun d' e => hg x d' e)
    rw [e]
    exact ⟨v, w, ρ, .inl (by simp [execOp, h1]), hS, Ctx.le.refl _, h2⟩
  case box elem x =>
    simp only [opH, boxH] at h
    split at h
    · rename_i cs hcs
      cases hbe : Nat.beq elem itTy with
      | true => rw [hbe] at h; cases h
      | false =>
      rw [hbe] at h
      injection h with h; subst h
      have hne : elem ≠ itTy := Nat.ne_of_beq_eq_false hbe
      cases hx : opnd env x with
      | none => simp [hx] at hcs
      | some dx =>
        simp only [hx, Option.bind_some] at hcs
        have hl := cellsD_rd hcs (hg x dx hx)
        obtain ⟨ρ', h1, h2, h3⟩ := new_block (ty := elem) hne hS hl
        exact ⟨_, _, ρ', .inl (by simp [execOp, Instr.box, newVar, newRow]), h1, h2, rd_ptr (by simp) h3⟩
    · cases h
  case alloc elem =>
    simp only [opH] at h
    split at h
    · rename_i ti hti
      injection h with h; subst h
      obtain ⟨z, hz1, hz2⟩ := (hT.ok elem ti hti).run_zero
      have hl : RdL (ctx ρ S w H) (ti.zero.map .v) z.cells.toList := by
        rw [hz1]; exact RdL.scalars _ _ (by rw [List.all_eq_true]; exact (hT.ok elem ti hti).one)
      obtain ⟨ρ', h1, h2, h3⟩ := new_block (ty := elem) (hT.ok elem ti hti).ne hS hl
      refine ⟨.pointer (some ⟨w.heap.size, 0, none⟩), _, ρ', .inl ?_, h1, h2, rd_ptr (by simp) h3⟩
      simp [execOp, Instr.alloc, hz2, newVar, newRow]
    · cases h
  case load t x =>
    simp only [opH, loadH] at h
    split at h
    · rename_i b off hx
      split at h
      · rename_i blk ti hb ht
        injection h with h; subst h
        have hr := hg x _ hx
        simp only [Rd] at hr
        obtain ⟨v, h1, h2⟩ := load_blk (P := P) hS (blkAt_some hb) (blkAt_ty hb) (hT.ok t ti ht) hc
        refine ⟨v, w, ρ, .inl ?_, hS, Ctx.le.refl _, h2⟩
        simp [execOp, Instr.loadAt, hr.2, Instr.sureAddr, h1]
      · cases h
    · cases h
  case store t x y =>
    simp only [opH, storeH] at h
    split at h
    · rename_i b off hx
      split at h
      · rename_i blk ti ys hb ht hys
        injection h with h; subst h
        cases hy : opnd env y with
        | none => simp [hy] at hys
        | some dy =>
          simp only [hy, Option.bind_some] at hys
          have hl := cellsD_rd hys (hg y dy hy)
          have hr := hg x _ hx
          simp only [Rd, ctx] at hr
          obtain ⟨w', h1, h2, h3⟩ := store_blk (P := P) hS (blkAt_some hb) (blkAt_ty hb) (hT.ok t ti ht) hl hc.1 hc.2
          refine ⟨undef, w', ρ, .inr ⟨?_, rfl⟩, h2, h3, by simp [Rd]⟩
          simp [execOp, Instr.storeAt, hr.2, Instr.sureAddr, h1]
      · cases h
    · cases h
  case makeSlice t l c =>
    simp only [opH, makeH] at h
    split at h
    · rename_i k n k' m hl hcap
      split at h
      · rename_i e _ _ _ ht
        split at h
        · rename_i ti hte
          injection h with h; subst h
          obtain ⟨h0, hnm, hb, h63⟩ := hc
          have hl' := hg l _ hl
          have hc' := hg c _ hcap
          simp only [Rd] at hl' hc'
          obtain ⟨i, z, hi, hinfo, e1, e2, e3, e4⟩ := (hT.ok e ti hte).run_info w
          have hrun := run_make (P := P) w t e i z ((hT.ok t _ ht).slice rfl) hinfo e3 k k' n m h0 hnm (by rw [e2]; exact hb) h63
          rw [e1] at hrun
          have hl : RdL (ctx ρ S w H) (makeD ti.zero m.toNat) (madeCells z.cells (m.toNat * ti.size)).toList := makeD_rd (hT.ok e ti hte) e4 _
          obtain ⟨ρ', h1, h2, h3⟩ := new_block (ty := e) (hT.ok e ti hte).ne hS hl
          refine ⟨.slice (some ⟨w.heap.size, 0, none⟩) n.toNat m.toNat, _, ρ', .inl ?_, h1, h2, ?_⟩
          · simp only [execOp, hl', hc', Sem.run_bind, hrun, Result.andThen_ok, Sem.run_pure]
          · simp only [Rd]
            refine ⟨by simp, _, m.toNat, rfl, by omega, by simp only [maxLen]; omega, ?_, fun _ => ?_⟩
            · simp [h3, size_madeCells]
            · simp [h3]
        · cases h
      · cases h
    · cases h
  case buildSlice t len parts =>
    simp only [opH, buildSliceH] at h
    split at h
    · rename_i e _ _ _ ht
      split at h
      · rename_i ti hte
        split at h
        · rename_i cs hcs
          injection h with h; subst h
          obtain ⟨z, hz1, hz2⟩ := (hT.ok e ti hte).run_zero
          have hl0 : RdL (ctx ρ S w H) (makeD ti.zero len) (madeCells z.cells (len * ti.size)).toList := makeD_rd (hT.ok e ti hte) hz1 _
          obtain ⟨ws, h1, h2⟩ := fill_sound (E := ctx ρ S w H) hg parts.toList _ _ _ hcs hl0
          have hlen : ws.size = len * ti.size := by
            have h3 := h2.length
            have h4 := hl0.length
            have h5 : cs.length = (makeD ti.zero len).length := by
              have : ∀ (ps : List (Nat × Operand)) (l : List D) (out : List D), fillD (fun i => some (i * ti.size, ti.size)) env l ps = some out → out.length = l.length := by
                intro ps
                induction ps with
                | nil => intro l out h; simp only [fillD] at h; injection h with h; subst h; rfl
                | cons p ps ih =>
                  intro l out h
                  obtain ⟨i, x⟩ := p
                  simp only [fillD] at h
                  split at h
                  · split at h
                    · rw [ih _ _ h, setAll_length]
                    · cases h
                  · cases h
              exact this _ _ _ hcs
            simp only [Array.length_toList, size_madeCells] at h3 h4
            omega
          obtain ⟨ρ', h3, h4, h5⟩ := new_block (ty := e) (hT.ok e ti hte).ne hS h2
          refine ⟨.slice (some ⟨w.heap.size, 0, none⟩) len len, _, ρ', .inl ?_, h3, h4, ?_⟩
          · have hbig : ¬ (16777216 < len * ti.size) := by have : len * ti.size ≤ 16777216 := hc.1; omega
            have hparts : (parts.map fun (p : Nat × Operand) => (p.1, a.eval p.2)).toList = parts.toList.map fun p => (p.1, a.eval p.2) := by simp
            by_cases h0 : len * ti.size = 0
            · have hm : madeCells z.cells (len * ti.size) = #[] := by rw [h0]; simp [madeCells, Array.range_zero']
              rw [hm] at h1
              simp only [execOp, Instr.buildSlice, Sem.run_bind, run_underlying ((hT.ok t _ ht).slice rfl), Result.andThen_ok, (hT.ok e ti hte).run_size]
              rw [if_neg (by simpa using hbig)]
              simp only [h0, if_true, Sem.run_bind, Sem.run_pure, Result.andThen_ok, Array.range_zero', Array.map_empty]
              rw [hparts, h1]
              simp [newRow]
            · simp only [execOp, Instr.buildSlice, Sem.run_bind, run_underlying ((hT.ok t _ ht).slice rfl), Result.andThen_ok, (hT.ok e ti hte).run_size]
              rw [if_neg (by simpa using hbig)]
              simp only [h0, if_false, Sem.run_bind, Sem.run_pure, Result.andThen_ok, hz2]
              have hm : Array.map (fun x => z.cells[x % z.cells.size]!) (Array.range (len * ti.size)) = madeCells z.cells (len * ti.size) := rfl
              rw [hm, hparts, h1]
              simp [newRow]
          · simp only [Rd]
            refine ⟨by simp, _, len, rfl, Nat.le_refl _, ?_, ?_, fun _ => ?_⟩
            · exact hc.2
            · simp [h5, hlen]
            · simp [h5]
        · cases h
      · cases h
    · cases h
  case call cl =>
    obtain ⟨callee, args, argTypes⟩ := cl
    cases callee with
    | value f => simp [opH] at h
    | invoke r m => simp [opH] at h
    | builtin b =>
      cases b
      case append =>
        simp only [opH] at h
        split at h
        · rename_i s x hargs
          have e1 : args = #[s, x] := by rw [← Array.toList_inj, hargs]
          subst e1
          obtain ⟨ts⟩ := argTypes
          have hts : ∃ t t', ts[0]? = some t ∧ ts[1]? = some t' := by
            simp only [appendH] at h
            cases h0 : ts[0]? with
            | none => split at h <;> simp [h0] at h
            | some t =>
              cases h1 : ts[1]? with
              | none => split at h <;> simp [h0, h1] at h
              | some t' => exact ⟨t, t', rfl, rfl⟩
          obtain ⟨t, t', h0, h1⟩ := hts
          simp only [h0, h1, Option.bind_some] at h
          obtain ⟨v, w', ρ', hrun, hS', hle, hrd⟩ := append_sound (ty := ty) hT h hc hS (fun d e => hg s d e) (fun d e => hg x d e)
          refine ⟨v, w', ρ', .inl ?_, hS', hle, hrd⟩
          have hbi : ∀ (ts' : Array TypeId), ts'[0]? = some t → ts'[1]? = some t' → (Builtin.append_ ts' ty #[a.eval s, a.eval x]).run P w = (Builtin.append_ #[t, t'] ty #[a.eval s, a.eval x]).run P w := by
            intro ts' q0 q1
            simp only [Builtin.append_, q0, q1]
            rfl
          simp only [execOp, resolve, invoke, builtin, Sem.run_bind, Sem.run_pure, Result.andThen_ok, List.map_toArray, List.map_cons, List.map_nil]
          rw [hbi _ (by simpa using h0) (by simpa using h1), hrun]
          rfl
        · cases h
      all_goals (simp [opH] at h)
  all_goals (simp [opH] at h)
end

theorem opH_congr {T : Tbl} {env env' : Env} {H : Heap} {op : Op} (h : ∀ t ∈ opSlots op, env.lookup t = env'.lookup t) : opH T env H op = opH T env' H op := by
  have hx := get_of_lookup h
  cases op
  case range t x => simp only [opH, hx x (by simp [Op.operands])]
  case next it b =>
    cases b with
    | false => rfl
    | true => simp only [opH, hx it (by simp [Op.operands])]
  case box elem x => simp only [opH, hx x (by simp [Op.operands])]
  case convert s d x => simp only [opH, hx x (by simp [Op.operands])]
  case load t x => simp only [opH, hx x (by simp [Op.operands])]
  case store t x y => simp only [opH, hx x (by simp [Op.operands]), hx y (by simp [Op.operands])]
  case makeSlice t l c => simp only [opH, hx l (by simp [Op.operands]), hx c (by simp [Op.operands])]
  case buildSlice t len parts =>
    have : ∀ p ∈ parts.toList, opnd env p.2 = opnd env' p.2 := fun p hp => hx p.2 (by simp only [Op.operands, List.toList_toArray, List.mem_map]; exact ⟨p, hp, rfl⟩)
    simp only [opH, buildSliceH, fillD_congr parts.toList _ this]
  case call c =>
    obtain ⟨callee, args, ts⟩ := c
    cases callee with
    | value f => rfl
    | invoke r m => rfl
    | builtin b =>
      have : ∀ x ∈ args.toList, opnd env x = opnd env' x := fun x hm => hx x (by simpa [Op.operands, Call.operands] using hm)
      cases b <;> simp only [opH]
      generalize args.toList = l at this ⊢
      split
      · rename_i s x
        rw [this s (by simp), this x (by simp)]
      · rfl
  all_goals rfl
end Go.VD
