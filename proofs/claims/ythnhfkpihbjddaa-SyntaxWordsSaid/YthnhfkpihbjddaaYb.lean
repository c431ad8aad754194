/- strings.Clone gives the same string. -/
import Derived.Test.YthnhfkpihbjddaaYa
import Derived.Lib.Strings
import Derived.Lib.Walk
import Derived.Lib.BufferWrite
import Derived.Lib.UnsafeStr
import Derived.Lib.Hide
import Derived.Lib.Buffer
import Derived.Laws.MakeOwn
import Derived.WalkKit
namespace Go.Proofs.Ythnhfkpihbjddaa
open Go.VD Go.RowKit
set_option linter.unusedVariables false
set_option linter.unusedSimpArgs false

set_option maxHeartbeats 4000000 in
set_option maxRecDepth 100000 in
theorem clone_empty (w : World) : Calls Try.prog 150 #[.string ⟨#[]⟩] w fun e w' => e = .returned (.string ⟨#[]⟩) ∧ Below w.heap.size w w' := by
  go_enter Try.func150, Try.ntmps150
  go_wp2
  go_ret
  exact ⟨rfl, Below.refl _ _⟩
theorem bytes_ne {s : ByteArray} (h : s.size ≠ 0) : s.data.toList ≠ [] := fun e => h (by rw [Lib.size_eq, e]; rfl)
set_option maxHeartbeats 4000000 in
set_option maxRecDepth 100000 in
theorem clone_full (s : ByteArray) (h0 : s.size ≠ 0) (hs : s.size ≤ 1000000) (w : World) : Calls Try.prog 150 #[.string s] w fun e w' => e = .returned (.string s) ∧ Below w.heap.size w w' := by
  have hi5 : (Try.prog.info? 5).map (fun i => (i.zero, i.size, i.bytes)) = some (some (Value.int .u8 0), 1, 1) := by kernel_rfl
  obtain ⟨i0, hi, hz0, hz1, hz2⟩ : ∃ i0, Try.prog.info? 5 = some i0 ∧ i0.zero = some (.int .u8 0) ∧ i0.size = 1 ∧ i0.bytes = 1 := by
    cases h : Try.prog.info? 5 with
    | none => rw [h] at hi5; cases hi5
    | some i =>
      rw [h] at hi5
      simp only [Option.map_some, Option.some.injEq, Prod.mk.injEq] at hi5
      exact ⟨i, rfl, hi5.1, hi5.2.1, hi5.2.2⟩
  have hsl : Try.prog.underlying 77 = some (.slice 5) := by kernel_rfl
  have hpt : Try.prog.underlying 128 = some (.pointer 5) := by kernel_rfl
  have hone : (Try.prog.info? 5).map (·.size) = some 1 := by rw [hi]; simp [hz1]
  have hco : Try.prog.cellsOf 5 = 1 := by simp [Program.cellsOf, hi, hz1]
  -- the new row, first of zeros
  have hz : ∃ M : Array Value, M.size = s.size ∧ ∀ W : World, (Instr.makeSlice 77 (.int .i64 (s.size : Int)) (.int .i64 (s.size : Int))).run Try.prog W = .ok (.slice (some ⟨W.heap.size, 0, none⟩) s.size s.size) (W.alloc (.cells M 5)) := by
    refine ⟨madeCells (Value.int .u8 0).cells (((s.size : Nat) : Int).toNat * i0.size), by rw [size_madeCells, hz1]; simp, fun W => ?_⟩
    have h := run_make (P := Try.prog) (w := W) 77 5 i0 (.int .u8 0) hsl hi hz0 .i64 .i64 (s.size : Int) (s.size : Int) (by omega) (by omega) (by rw [hz2]; omega) (by omega)
    simpa using h
  obtain ⟨M, hM, hmk⟩ := hz
  -- then of the bytes
  have hcp := Lib.run_copy_row_string (P := Try.prog) (w.alloc (.cells M 5)) 77 9 3 5 w.heap.size 0 s.size s.size s M 5 hsl hone (heap_alloc_new w _) (Nat.le_refl _) (by omega)
  have hY : ∃ Y : Array Value, Y.toList = Lib.byteCells s.data.toList ∧ (M.toList.take 0 ++ Lib.byteCells s.data.toList ++ M.toList.drop (0 + s.size)).toArray = Y := by
    refine ⟨_, ?_, rfl⟩
    rw [List.toList_toArray, List.take_zero, List.nil_append, List.drop_of_length_le (by rw [Array.length_toList]; omega), List.append_nil]
  obtain ⟨Y, hYl, hYe⟩ := hY
  rw [hYe] at hcp
  have hYs : Y.size = s.size := by rw [← Array.length_toList, hYl, Lib.byteCells_length, ← Lib.size_eq]
  have hrow : ((w.alloc (.cells M 5)).setRow w.heap.size Y).heap[w.heap.size]? = some (.cells Y 5 (0, 0)) := setRow_heap _ _ M _ 5 (0, 0) (heap_alloc_new w _)
  -- which are the string
  have hus := Lib.run_unsafeString_row (P := Try.prog) (w := (w.alloc (.cells M 5)).setRow w.heap.size Y) 128 3 9 5 hpt hco w.heap.size Y.size (by unfold World.shape?; rw [hrow]) s.data.toList (bytes_ne h0) (by rw [← Lib.size_eq]; omega) (by rw [← Lib.size_eq]; omega)
    (fun j x hx => Lib.cells_of_row hrow Y.size j _ (by rw [List.take_of_length_le (by rw [Array.length_toList]; exact Nat.le_refl _), hYl]; simp [Lib.byteCells, hx]))
  rw [← Lib.size_eq] at hus
  clear hYe hM
  go_enter Try.func150, Try.ntmps150
  go_wp2
  go_ret
  have b1 : Below w.heap.size w (w.alloc (.cells M 5)) := (Below.refl _ w).alloc (Nat.le_refl _) _
  have b2 : Below w.heap.size (w.alloc (.cells M 5)) ((w.alloc (.cells M 5)).setRow w.heap.size Y) := ⟨rfl, rfl, rfl, by simp, fun k hk => setRow_other _ _ _ _ (by omega)⟩
  exact ⟨rfl, Lib.below_freeze (b1.trans b2) (p := ⟨w.heap.size, 0, none⟩) (Nat.le_refl _) _⟩
theorem lclone_pure (s : ByteArray) (hpre : s.size ≤ 1000000) : PureJ Try.prog 150 [.v (.string s)] (.v (.string s)) := by
  refine ⟨⟨_, Try.func150, by kernel_rfl, by kernel_rfl⟩, by simp [NamelessL, Nameless], by simp [Nameless], fun S w vals hsub hG hv => ?_⟩
  have hvals : vals = [.string s] := by
    simp only [RdT, Rd] at hv
    obtain ⟨u, r, rfl, rfl, rfl⟩ := hv
    rfl
  subst hvals
  have h : Calls Try.prog 150 #[.string s] w fun e w' => e = .returned (.string s) ∧ Below w.heap.size w w' := by
    by_cases h0 : s.size = 0
    · have hs : s = ⟨#[]⟩ := by
        apply ByteArray.ext
        exact Array.eq_empty_of_size_eq_zero h0
      rw [hs]
      exact clone_empty w
    · exact clone_full s h0 hpre w
  exact h.mono fun e w' ⟨he, hb⟩ => ⟨.string s, S, he, ⟨hb.size, fun k hk => hb.block k hk, hb.os, hb.tape, hb.output⟩, fun _ h => h, fun _ h => .inl h, fun k hk => Nat.lt_of_lt_of_le (hsub k hk) hb.size, by simp only [Rd]⟩
def ent_lclone : Ent := fun ds => match ds with
  | [.v (.string s)] => some (.v (.string s), s.size ≤ 1000000)
  | _ => none
theorem ent_lclone_ok : EntOk Try.prog 150 ent_lclone := by
  intro ds d c h hc; unfold ent_lclone at h; split at h
  · obtain ⟨rfl, rfl⟩ := pair_inj h; exact lclone_pure _ hc
  · cases h
theorem sclone_pure (s : ByteArray) (hpre : s.size ≤ 1000000) : PureJ Try.prog 145 [.v (.string s)] (.v (.string s)) := by
  refine pureJ_of_vcx (call := (addPure 150 ent_lclone noCalls)) (lp := fun _ => none) (N := 10) T_ok mixed (addPure_ok ent_lclone_ok noCalls_ok) Try.func145 rfl (by decide) (by kernel_rfl) (by kernel_rfl) (LpAll.none _) (by first | trivial | (simp only [NamelessL, Nameless, and_self, and_true, true_and]; done) | (simp [NamelessL, Nameless, u32s_nameless, namelessL_ints]; done)) (by first | trivial | (simp only [NamelessL, Nameless, and_self, and_true, true_and]; done) | (simp [NamelessL, Nameless, u32s_nameless, namelessL_ints]; done)) ?_
  refine of_eq (B := (True ∧ (True ∧ (((ByteArray.size s) ≤ (1000000 : Nat)) ∧ (True ∧ (True ∧ (True ∧ ((D.v (Value.string s)) = (D.v (Value.string s)))))))))) (by kernel_rfl) ?_
  simp only [true_and, and_true, and_self, IsInt_lit, IsBool_lit, IsStr_lit, Bool.not_eq_true', Bool.not_eq_false', Bool.not_true, Bool.not_false, Int.reduceLE, Int.reduceLT, Int.reduceNeg, Nat.le_refl, Int.le_refl, Nat.reduceLT, Nat.reduceLeDiff, Nat.reduceEqDiff, D.v.injEq, D.tup.injEq, D.agg.injEq, D.ro.injEq, List.cons.injEq, Value.int.injEq, Value.bool.injEq, pcond_true, pcond_false, NamelessL, Nameless, Nat.reduceMul, Nat.reduceAdd, Nat.zero_add, Int.toNat_natCast]
  exact hpre
def ent_sclone : Ent := fun ds => match ds with
  | [.v (.string s)] => some (.v (.string s), s.size ≤ 1000000)
  | _ => none
theorem ent_sclone_ok : EntOk Try.prog 145 ent_sclone := by
  intro ds d c h hc; unfold ent_sclone at h; split at h
  · obtain ⟨rfl, rfl⟩ := pair_inj h; exact sclone_pure _ hc
  · cases h
theorem synKnown_pure : PureJ Try.prog 34 [] (.v (.bool true)) := synKnown_of fun s hs => sclone_pure s hs
def ent_synKnown : Ent := fun ds => match ds with
  | [] => some (.v (.bool true), True)
  | _ => none
theorem ent_synKnown_ok : EntOk Try.prog 34 ent_synKnown := by
  intro ds d c h hc; unfold ent_synKnown at h; split at h
  · obtain ⟨rfl, rfl⟩ := pair_inj h; exact synKnown_pure
  · cases h
end Go.Proofs.Ythnhfkpihbjddaa
