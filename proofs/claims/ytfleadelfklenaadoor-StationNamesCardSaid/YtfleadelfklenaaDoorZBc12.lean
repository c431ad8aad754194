import Derived.Test.YtfleadelfklenaaDoorZBc11
import Derived.Lib.Strings
import Derived.Lib.Walk
import Derived.Lib.BufferWrite
import Derived.Lib.UnsafeStr
import Derived.Lib.Hide
import Derived.Lib.Buffer
import Derived.Laws.MakeOwn
import Derived.WalkKit
import Derived.Test.YtfleadelfklenaaDoorZBc10
import Derived.Test.YtfleadelfklenaaDoorZBc9
section
namespace Go.Proofs.YtfleadelfklenaaDoor
open Go.VD Go.RowKit
set_option linter.unusedVariables false
set_option linter.unusedSimpArgs false
set_option maxHeartbeats 4000000 in
set_option maxRecDepth 100000 in
theorem clone_empty (w : World) : Calls Tryd.prog 84 #[.string ⟨#[]⟩] w fun e w' => e = .returned (.string ⟨#[]⟩) ∧ Below w.heap.size w w' := by
  go_enter Tryd.func84, Tryd.ntmps84
  go_wp2
  go_ret
  exact ⟨rfl, Below.refl _ _⟩
theorem bytes_ne {s : ByteArray} (h : s.size ≠ 0) : s.data.toList ≠ [] := fun e => h (by rw [Lib.size_eq, e]; rfl)
set_option maxHeartbeats 4000000 in
set_option maxRecDepth 100000 in
theorem clone_full (s : ByteArray) (h0 : s.size ≠ 0) (hs : s.size ≤ 1000000) (w : World) : Calls Tryd.prog 84 #[.string s] w fun e w' => e = .returned (.string s) ∧ Below w.heap.size w w' := by
  have hi5 : (Tryd.prog.info? 5).map (fun i => (i.zero, i.size, i.bytes)) = some (some (Value.int .u8 0), 1, 1) := by kernel_rfl
  obtain ⟨i0, hi, hz0, hz1, hz2⟩ : ∃ i0, Tryd.prog.info? 5 = some i0 ∧ i0.zero = some (.int .u8 0) ∧ i0.size = 1 ∧ i0.bytes = 1 := by
    cases h : Tryd.prog.info? 5 with
    | none => rw [h] at hi5; cases hi5
    | some i =>
      rw [h] at hi5
      simp only [Option.map_some, Option.some.injEq, Prod.mk.injEq] at hi5
      exact ⟨i, rfl, hi5.1, hi5.2.1, hi5.2.2⟩
  have hsl : Tryd.prog.underlying 118 = some (.slice 5) := by kernel_rfl
  have hpt : Tryd.prog.underlying 151 = some (.pointer 5) := by kernel_rfl
  have hone : (Tryd.prog.info? 5).map (·.size) = some 1 := by rw [hi]; simp [hz1]
  have hco : Tryd.prog.cellsOf 5 = 1 := by simp [Program.cellsOf, hi, hz1]
  have hz : ∃ M : Array Value, M.size = s.size ∧ ∀ W : World, (Instr.makeSlice 118 (.int .i64 (s.size : Int)) (.int .i64 (s.size : Int))).run Tryd.prog W = .ok (.slice (some ⟨W.heap.size, 0, none⟩) s.size s.size) (W.alloc (.cells M 5)) := by
    refine ⟨madeCells (Value.int .u8 0).cells (((s.size : Nat) : Int).toNat * i0.size), by rw [size_madeCells, hz1]; simp, fun W => ?_⟩
    have h := run_make (P := Tryd.prog) (w := W) 118 5 i0 (.int .u8 0) hsl hi hz0 .i64 .i64 (s.size : Int) (s.size : Int) (by omega) (by omega) (by rw [hz2]; omega) (by omega)
    simpa using h
  obtain ⟨M, hM, hmk⟩ := hz
  have hcp := Lib.run_copy_row_string (P := Tryd.prog) (w.alloc (.cells M 5)) 118 9 3 5 w.heap.size 0 s.size s.size s M 5 hsl hone (heap_alloc_new w _) (Nat.le_refl _) (by omega)
  have hY : ∃ Y : Array Value, Y.toList = Lib.byteCells s.data.toList ∧ (M.toList.take 0 ++ Lib.byteCells s.data.toList ++ M.toList.drop (0 + s.size)).toArray = Y := by
    refine ⟨_, ?_, rfl⟩
    rw [List.toList_toArray, List.take_zero, List.nil_append, List.drop_of_length_le (by rw [Array.length_toList]; omega), List.append_nil]
  obtain ⟨Y, hYl, hYe⟩ := hY
  rw [hYe] at hcp
  have hYs : Y.size = s.size := by rw [← Array.length_toList, hYl, Lib.byteCells_length, ← Lib.size_eq]
  have hrow : ((w.alloc (.cells M 5)).setRow w.heap.size Y).heap[w.heap.size]? = some (.cells Y 5 (0, 0)) := setRow_heap _ _ M _ 5 (0, 0) (heap_alloc_new w _)
  have hus := Lib.run_unsafeString_row (P := Tryd.prog) (w := (w.alloc (.cells M 5)).setRow w.heap.size Y) 151 3 9 5 hpt hco w.heap.size Y.size (by unfold World.shape?; rw [hrow]) s.data.toList (bytes_ne h0) (by rw [← Lib.size_eq]; omega) (by rw [← Lib.size_eq]; omega)
    (fun j x hx => Lib.cells_of_row hrow Y.size j _ (by rw [List.take_of_length_le (by rw [Array.length_toList]; exact Nat.le_refl _), hYl]; simp [Lib.byteCells, hx]))
  rw [← Lib.size_eq] at hus
  clear hYe hM
  go_enter Tryd.func84, Tryd.ntmps84
  go_wp2
  go_ret
  have b1 : Below w.heap.size w (w.alloc (.cells M 5)) := (Below.refl _ w).alloc (Nat.le_refl _) _
  have b2 : Below w.heap.size (w.alloc (.cells M 5)) ((w.alloc (.cells M 5)).setRow w.heap.size Y) := ⟨rfl, rfl, rfl, by simp, fun k hk => setRow_other _ _ _ _ (by omega)⟩
  exact ⟨rfl, Lib.below_freeze (b1.trans b2) (p := ⟨w.heap.size, 0, none⟩) (Nat.le_refl _) _⟩
theorem lclone_pure (s : ByteArray) (hpre : s.size ≤ 1000000) : PureJ Tryd.prog 84 [.v (.string s)] (.v (.string s)) := by
  refine ⟨⟨_, Tryd.func84, by kernel_rfl, by kernel_rfl⟩, by simp [NamelessL, Nameless], by simp [Nameless], fun S w vals hsub hG hv => ?_⟩
  have hvals : vals = [.string s] := by
    simp only [RdT, Rd] at hv
    obtain ⟨u, r, rfl, rfl, rfl⟩ := hv
    rfl
  subst hvals
  have h : Calls Tryd.prog 84 #[.string s] w fun e w' => e = .returned (.string s) ∧ Below w.heap.size w w' := by
    by_cases h0 : s.size = 0
    · have hs : s = ⟨#[]⟩ := by
        apply ByteArray.ext
        exact Array.eq_empty_of_size_eq_zero h0
      rw [hs]
      exact clone_empty w
    · exact clone_full s h0 hpre w
  exact h.mono fun e w' ⟨he, hb⟩ => ⟨.string s, S, he, ⟨hb.size, fun k hk => hb.block k hk, hb.os, hb.tape, hb.output⟩, fun _ h => h, fun _ h => .inl h, fun k hk => Nat.lt_of_lt_of_le (hsub k hk) hb.size, by simp only [Rd]⟩
end Go.Proofs.YtfleadelfklenaaDoor
end
section
namespace Go.VD
set_option linter.unusedVariables false
set_option linter.unusedSimpArgs false
section
variable {P : Program} {nt : Nat} {ops : Array Oper}
structure CheckedA (ops : Array Oper) (ts : Nat → Tch) (alt : Nat → Option Nat) : Prop where
  back : ∀ j o, ops[j]? = some o → ∀ e ∈ directL o, e < j
  slot : ∀ k j ok oj, k < j → ops[k]? = some ok → ops[j]? = some oj → slotClash ops ok oj = true → k ∈ directL oj
  dst : ∀ k j t, gslot ops k = some t → gslot ops j = some t → k = j
  heap : ∀ k j, k < j → j < ops.size → clash (ts k) (ts j) = true → alt j = some k ∨ ∀ listed, Closed ops listed → (∀ o, ops[j]? = some o → ∀ e ∈ directL o, listed.getD e false = true) → listed.getD k false = true
  alt : ∀ j k0, alt j = some k0 → k0 < j ∧ ∃ b, ts j = .rd b ∧ ∀ k, k0 < k → k < j → ¬ Wt (ts k) b
end
section
variable {P : Program} {T : Tbl} (hT : TblOk P T) {nt N : Nat} {ops : Array Oper} {call : CallO} {lp : Nat → Option LoopO} {al : Nat → Option (Nat × Nat)}
include hT
omit hT
include hT
end
end Go.VD
end
section
namespace Go.Proofs.YtfleadelfklenaaDoor
open Go.VD
set_option linter.unusedVariables false
set_option linter.unusedSimpArgs false
set_option maxRecDepth 100000
def bt (s : ByteArray) (i : Nat) : Nat := (s.data.toList.getD i 0).toNat
theorem get_bt (s : ByteArray) (i : Nat) : (s.get! i).toNat = bt s i := by
  have : s.get! i = s.data.toList.getD i 0 := by
    obtain ⟨⟨l⟩⟩ := s
    simp only [ByteArray.get!, List.getD_eq_getElem?_getD]
    rw [getElem!_def]
    simp
    rfl
  rw [this]; rfl
theorem dec_ascii {s : ByteArray} {i : Nat} (h : bt s i < 128) : Utf8.decode s i = (bt s i, 1) := by
  unfold Utf8.decode
  simp only [Nat.add_zero, get_bt]
  rw [if_pos h]
theorem dec_high {s : ByteArray} {i : Nat} (h : 128 ≤ bt s i) (h2 : bt s i < 256) : 128 ≤ (Utf8.decode s i).1 ∧ (Utf8.decode s i).1 < 2147483648 := by
  unfold Utf8.decode
  simp only [Nat.add_zero, get_bt, Utf8.runeError]
  rw [if_neg (by omega)]
  split
  · split <;> (simp only; omega)
  · split
    · split
      · rename_i hc
        simp only [Bool.and_eq_true, decide_eq_true_eq] at hc
        simp only; omega
      · simp only; omega
    · split
      · split
        · rename_i hc
          simp only [Bool.and_eq_true, decide_eq_true_eq] at hc
          simp only; omega
        · simp only; omega
      · simp only; omega
theorem bt_lt (s : ByteArray) (i : Nat) : bt s i < 256 := (s.data.toList.getD i 0).toNat_lt
theorem dec_pred {p : Nat → Bool} (hp : ∀ n, p n = true → n < 128) (s : ByteArray) (x : Nat) : p (Utf8.decode s x).1 = p (bt s x) ∧ (p (bt s x) = true → (Utf8.decode s x).2 = 1) := by
  by_cases h : bt s x < 128
  · rw [dec_ascii h]; exact ⟨rfl, fun _ => rfl⟩
  · have hh := (dec_high (show 128 ≤ bt s x by omega) (bt_lt s x)).1
    have e1 : p (Utf8.decode s x).1 = false := by
      cases hq : p (Utf8.decode s x).1 with
      | false => rfl
      | true => have := hp _ hq; omega
    have e2 : p (bt s x) = false := by
      cases hq : p (bt s x) with
      | false => rfl
      | true => have := hp _ hq; omega
    rw [e1, e2]
    exact ⟨rfl, fun h => by cases h⟩
def digB (n : Nat) : Bool := decide (48 ≤ n) && decide (n ≤ 57)
theorem size_list (s : ByteArray) : s.size = s.data.toList.length := by rw [Array.length_toList]; rfl
end Go.Proofs.YtfleadelfklenaaDoor
end
section
namespace Go.Proofs.YtfleadelfklenaaDoor
open Go.VD
set_option linter.unusedVariables false
set_option linter.unusedSimpArgs false
set_option maxRecDepth 100000
structure Imp where
  r : Int
  x : Int
  deriving DecidableEq
structure Lin where
  n : ByteArray
  z1 : Imp
  z0 : Imp
structure Src where
  n : ByteArray
  emf : Int
  z1 : Imp
  z0 : Imp
structure Lnk where
  bus : Int
  pos : Int
  deriving DecidableEq
structure Bay where
  n : ByteArray
  kind : Int
  of : Int
  end_ : Int
  z : Imp
  ls : List Lnk
  cl : Bool
  ct : Int
  vt : Int
  sat : Int
  tr : Int
structure Stn where
  n : ByteArray
  bu : List ByteArray
  li : List Lin
  so : List Src
  ba : List Bay
instance : Inhabited Imp := ⟨⟨0, 0⟩⟩
instance : Inhabited Lin := ⟨⟨.empty, default, default⟩⟩
instance : Inhabited Src := ⟨⟨.empty, 0, default, default⟩⟩
instance : Inhabited Lnk := ⟨⟨0, 0⟩⟩
instance : Inhabited Bay := ⟨⟨.empty, 0, 0, 0, default, [], false, 0, 0, 0, 0⟩⟩
instance : Inhabited Stn := ⟨⟨.empty, [], [], [], []⟩⟩
abbrev d_i (n : Int) : D := .v (.int .i64 n)
abbrev d_s (s : ByteArray) : D := .v (.string s)
def busesD (l : List ByteArray) : List D := l.map d_s
def linD (x : Lin) : List D := [d_s x.n, d_i x.z1.r, d_i x.z1.x, d_i x.z0.r, d_i x.z0.x]
def linesD : List Lin → List D
  | [] => []
  | x :: r => linD x ++ linesD r
def srcD' (x : Src) : List D := [d_s x.n, d_i x.emf, d_i x.z1.r, d_i x.z1.x, d_i x.z0.r, d_i x.z0.x]
def srcsD : List Src → List D
  | [] => []
  | x :: r => srcD' x ++ srcsD r
def lnksD : List Lnk → List D
  | [] => []
  | x :: r => d_i x.bus :: d_i x.pos :: lnksD r
def bayD (b : Bay) : List D := [d_s b.n, d_i b.kind, d_i b.of, d_i b.end_, d_i b.z.r, d_i b.z.x, .ro b.ls.length (lnksD b.ls), .v (.bool b.cl), d_i b.ct, d_i b.vt, d_i b.sat, d_i b.tr]
def baysD : List Bay → List D
  | [] => []
  | x :: r => bayD x ++ baysD r
def stnD (s : Stn) : List D := [d_s s.n, .ro s.bu.length (busesD s.bu), .ro s.li.length (linesD s.li), .ro s.so.length (srcsD s.so), .ro s.ba.length (baysD s.ba)]
theorem busesD_length (l : List ByteArray) : (busesD l).length = l.length := by simp [busesD]
theorem linesD_length : ∀ l : List Lin, (linesD l).length = 5 * l.length
  | [] => rfl
  | x :: r => by simp only [linesD, linD, List.length_append, List.length_cons, List.length_nil, linesD_length r]; omega
theorem srcsD_length : ∀ l : List Src, (srcsD l).length = 6 * l.length
  | [] => rfl
  | x :: r => by simp only [srcsD, srcD', List.length_append, List.length_cons, List.length_nil, srcsD_length r]; omega
theorem lnksD_length : ∀ l : List Lnk, (lnksD l).length = 2 * l.length
  | [] => rfl
  | x :: r => by simp only [lnksD, List.length_cons, lnksD_length r]; omega
theorem baysD_length : ∀ l : List Bay, (baysD l).length = 12 * l.length
  | [] => rfl
  | x :: r => by simp only [baysD, bayD, List.length_append, List.length_cons, List.length_nil, baysD_length r]; omega
theorem busesD_get (l : List ByteArray) (i : Nat) (h : i < l.length) : (busesD l).getD i default = d_s (l.getD i default) := by
  simp [busesD, h]
theorem linesD_get : ∀ (l : List Lin) (i : Nat), i < l.length → (linesD l).getD (i * 5) default = d_s (l.getD i default).n ∧ (linesD l).getD (i * 5 + 1) default = d_i (l.getD i default).z1.r ∧ (linesD l).getD (i * 5 + 2) default = d_i (l.getD i default).z1.x ∧
    (linesD l).getD (i * 5 + 3) default = d_i (l.getD i default).z0.r ∧ (linesD l).getD (i * 5 + 4) default = d_i (l.getD i default).z0.x
  | [], i, h => by simp at h
  | x :: r, 0, h => by simp [linesD, linD]
  | x :: r, i + 1, h => by
    have := linesD_get r i (by simpa using h)
    rw [show (i + 1) * 5 = i * 5 + 1 + 1 + 1 + 1 + 1 by omega]
    simp only [linesD, linD, List.cons_append, List.nil_append, List.getD_cons_succ]
    exact this
theorem srcsD_get : ∀ (l : List Src) (i : Nat), i < l.length → (srcsD l).getD (i * 6) default = d_s (l.getD i default).n ∧ (srcsD l).getD (i * 6 + 1) default = d_i (l.getD i default).emf ∧ (srcsD l).getD (i * 6 + 2) default = d_i (l.getD i default).z1.r ∧
    (srcsD l).getD (i * 6 + 3) default = d_i (l.getD i default).z1.x ∧ (srcsD l).getD (i * 6 + 4) default = d_i (l.getD i default).z0.r ∧ (srcsD l).getD (i * 6 + 5) default = d_i (l.getD i default).z0.x
  | [], i, h => by simp at h
  | x :: r, 0, h => by simp [srcsD, srcD']
  | x :: r, i + 1, h => by
    have := srcsD_get r i (by simpa using h)
    rw [show (i + 1) * 6 = i * 6 + 1 + 1 + 1 + 1 + 1 + 1 by omega]
    simp only [srcsD, srcD', List.cons_append, List.nil_append, List.getD_cons_succ]
    exact this
theorem lnksD_get : ∀ (l : List Lnk) (i : Nat), i < l.length → (lnksD l).getD (i * 2) default = d_i (l.getD i default).bus ∧ (lnksD l).getD (i * 2 + 1) default = d_i (l.getD i default).pos
  | [], i, h => by simp at h
  | x :: r, 0, h => by simp [lnksD]
  | x :: r, i + 1, h => by
    have := lnksD_get r i (by simpa using h)
    rw [show (i + 1) * 2 = i * 2 + 1 + 1 by omega]
    simp only [lnksD, List.getD_cons_succ]
    exact this
theorem baysD_get : ∀ (l : List Bay) (i : Nat), i < l.length → (baysD l).getD (i * 12) default = d_s (l.getD i default).n ∧ (baysD l).getD (i * 12 + 1) default = d_i (l.getD i default).kind ∧ (baysD l).getD (i * 12 + 2) default = d_i (l.getD i default).of ∧
    (baysD l).getD (i * 12 + 3) default = d_i (l.getD i default).end_ ∧ (baysD l).getD (i * 12 + 4) default = d_i (l.getD i default).z.r ∧ (baysD l).getD (i * 12 + 5) default = d_i (l.getD i default).z.x ∧
    (baysD l).getD (i * 12 + 6) default = .ro (l.getD i default).ls.length (lnksD (l.getD i default).ls) ∧ (baysD l).getD (i * 12 + 7) default = .v (.bool (l.getD i default).cl) ∧ (baysD l).getD (i * 12 + 8) default = d_i (l.getD i default).ct ∧
    (baysD l).getD (i * 12 + 9) default = d_i (l.getD i default).vt ∧ (baysD l).getD (i * 12 + 10) default = d_i (l.getD i default).sat ∧ (baysD l).getD (i * 12 + 11) default = d_i (l.getD i default).tr
  | [], i, h => by simp at h
  | x :: r, 0, h => by simp [baysD, bayD]
  | x :: r, i + 1, h => by
    have := baysD_get r i (by simpa using h)
    rw [show (i + 1) * 12 = i * 12 + 1 + 1 + 1 + 1 + 1 + 1 + 1 + 1 + 1 + 1 + 1 + 1 by omega]
    simp only [baysD, bayD, List.cons_append, List.nil_append, List.getD_cons_succ]
    exact this
theorem busesD_nl : ∀ l : List ByteArray, NamelessL (busesD l)
  | [] => by simp [busesD, NamelessL]
  | x :: r => by simp only [busesD, List.map_cons, NamelessL, Nameless, true_and]; exact busesD_nl r
theorem linesD_nl : ∀ l : List Lin, NamelessL (linesD l)
  | [] => by simp [linesD, NamelessL]
  | x :: r => by rw [linesD]; exact NamelessL.append (by simp [linD, NamelessL, Nameless]) (linesD_nl r)
theorem srcsD_nl : ∀ l : List Src, NamelessL (srcsD l)
  | [] => by simp [srcsD, NamelessL]
  | x :: r => by rw [srcsD]; exact NamelessL.append (by simp [srcD', NamelessL, Nameless]) (srcsD_nl r)
theorem lnksD_nl : ∀ l : List Lnk, NamelessL (lnksD l)
  | [] => by simp [lnksD, NamelessL]
  | x :: r => by simp only [lnksD, NamelessL, Nameless, true_and]; exact lnksD_nl r
theorem bayD_nl (b : Bay) : NamelessL (bayD b) := by simp only [bayD, NamelessL, Nameless, true_and, and_true]; exact lnksD_nl _
theorem baysD_nl : ∀ l : List Bay, NamelessL (baysD l)
  | [] => by simp [baysD, NamelessL]
  | x :: r => by rw [baysD]; exact NamelessL.append (bayD_nl x) (baysD_nl r)
theorem stnD_nl (s : Stn) : NamelessL (stnD s) := by
  simp only [stnD, NamelessL, Nameless, true_and, and_true]; exact ⟨busesD_nl _, linesD_nl _, srcsD_nl _, baysD_nl _⟩
def unLnk : List D → List Lnk
  | .v (.int _ a) :: .v (.int _ b) :: r => ⟨a, b⟩ :: unLnk r
  | _ => []
theorem unLnk_D : ∀ l : List Lnk, unLnk (lnksD l) = l
  | [] => rfl
  | x :: r => by simp only [lnksD, unLnk, unLnk_D r]
def unBus : List D → List ByteArray
  | .v (.string s) :: r => s :: unBus r
  | _ => []
theorem unBus_D : ∀ l : List ByteArray, unBus (busesD l) = l
  | [] => rfl
  | x :: r => by have := unBus_D r; simp only [busesD] at this; simp only [busesD, List.map_cons, unBus, this]
def unLin : List D → List Lin
  | .v (.string s) :: .v (.int _ a) :: .v (.int _ b) :: .v (.int _ c) :: .v (.int _ d) :: r => ⟨s, ⟨a, b⟩, ⟨c, d⟩⟩ :: unLin r
  | _ => []
theorem unLin_D : ∀ l : List Lin, unLin (linesD l) = l
  | [] => rfl
  | x :: r => by simp only [linesD, linD, List.cons_append, List.nil_append, unLin, unLin_D r]
def unSrc : List D → List Src
  | .v (.string s) :: .v (.int _ e) :: .v (.int _ a) :: .v (.int _ b) :: .v (.int _ c) :: .v (.int _ d) :: r => ⟨s, e, ⟨a, b⟩, ⟨c, d⟩⟩ :: unSrc r
  | _ => []
theorem unSrc_D : ∀ l : List Src, unSrc (srcsD l) = l
  | [] => rfl
  | x :: r => by simp only [srcsD, srcD', List.cons_append, List.nil_append, unSrc, unSrc_D r]
def unBay : List D → List Bay
  | .v (.string s) :: .v (.int _ k) :: .v (.int _ o) :: .v (.int _ e) :: .v (.int _ a) :: .v (.int _ b) :: .ro _ ls :: .v (.bool cl) :: .v (.int _ ct) :: .v (.int _ vt) :: .v (.int _ sa) :: .v (.int _ tr) :: r => ⟨s, k, o, e, ⟨a, b⟩, unLnk ls, cl, ct, vt, sa, tr⟩ :: unBay r
  | _ => []
theorem unBay_D : ∀ l : List Bay, unBay (baysD l) = l
  | [] => rfl
  | x :: r => by simp only [baysD, bayD, List.cons_append, List.nil_append, unBay, unLnk_D, unBay_D r]
def I64 (n : Int) : Prop := -9223372036854775808 ≤ n ∧ n < 9223372036854775808
def okImp (z : Imp) : Prop := I64 z.r ∧ I64 z.x
def okLin (x : Lin) : Prop := x.n.size ≤ maxLen ∧ okImp x.z1 ∧ okImp x.z0
def okSrc (x : Src) : Prop := x.n.size ≤ maxLen ∧ I64 x.emf ∧ okImp x.z1 ∧ okImp x.z0
def okLnk (x : Lnk) : Prop := I64 x.bus ∧ I64 x.pos
def okBay (b : Bay) : Prop := b.n.size ≤ maxLen ∧ (I64 b.kind ∧ I64 b.of ∧ I64 b.end_) ∧ okImp b.z ∧ (b.ls.length ≤ maxLen ∧ ∀ x ∈ b.ls, okLnk x) ∧ I64 b.ct ∧ I64 b.vt ∧ I64 b.sat ∧ I64 b.tr
def okStn (s : Stn) : Prop := s.n.size ≤ maxLen ∧ (s.bu.length ≤ maxLen ∧ ∀ x ∈ s.bu, x.size ≤ maxLen) ∧ (s.li.length ≤ maxLen ∧ ∀ x ∈ s.li, okLin x) ∧ (s.so.length ≤ maxLen ∧ ∀ x ∈ s.so, okSrc x) ∧ s.ba.length ≤ maxLen ∧ ∀ x ∈ s.ba, okBay x
theorem getD_mem {α : Type} [Inhabited α] {l : List α} {i : Nat} (h : i < l.length) : l.getD i default ∈ l := by
  rw [List.getD_eq_getElem?_getD, List.getElem?_eq_getElem h]; exact List.getElem_mem h
theorem wf_I64 {n : Int} (h : (Lit.int .i64 n).wf = true) : I64 n := wf_i64 h
theorem imp_inv {cs : List D} (h : TC T 49 cs) : ∃ z : Imp, cs = [d_i z.r, d_i z.x] ∧ okImp z := by
  obtain ⟨p1, r1, rfl, g1, p2, r2, rfl, g2, rfl⟩ := h.fields T_49
  obtain ⟨a, rfl, ha⟩ := g1.int_inv T_3
  obtain ⟨b, rfl, hb⟩ := g2.int_inv T_3
  exact ⟨⟨a, b⟩, rfl, wf_I64 ha, wf_I64 hb⟩
theorem list_inv {α : Type} {f : α → List D} {ok : α → Prop} {F : List α → List D} (h0 : F [] = []) (h1 : ∀ x r, F (x :: r) = f x ++ F r) {t : TypeId} (inv : ∀ c, TC T t c → ∃ x, c = f x ∧ ok x) :
    ∀ chunks : List (List D), (∀ c ∈ chunks, TC T t c) → ∃ l : List α, chunks.length = l.length ∧ chunks.flatten = F l ∧ ∀ x ∈ l, ok x
  | [], _ => ⟨[], rfl, by simp [h0], by simp⟩
  | c :: r, hc => by
    obtain ⟨l, g1, g2, g3⟩ := list_inv h0 h1 inv r fun c h => hc c (by simp [h])
    obtain ⟨x, rfl, hx⟩ := inv c (hc c (by simp))
    refine ⟨x :: l, by simp [g1], by rw [List.flatten_cons, g2, h1], fun y hy => ?_⟩
    rcases List.mem_cons.1 hy with rfl | hy
    · exact hx
    · exact g3 y hy
theorem lin_inv (c : List D) (h : TC T 57 c) : ∃ x, c = linD x ∧ okLin x := by
  obtain ⟨p1, r1, rfl, g1, p2, r2, rfl, g2, p3, r3, rfl, g3, rfl⟩ := h.fields T_57
  obtain ⟨s, rfl, hs⟩ := g1.str_inv T_9
  obtain ⟨z1, rfl, hz1⟩ := imp_inv g2
  obtain ⟨z0, rfl, hz0⟩ := imp_inv g3
  exact ⟨⟨s, z1, z0⟩, rfl, hs, hz1, hz0⟩
theorem src_inv (c : List D) (h : TC T 60 c) : ∃ x, c = srcD' x ∧ okSrc x := by
  obtain ⟨p1, r1, rfl, g1, p4, r4, rfl, g4, p2, r2, rfl, g2, p3, r3, rfl, g3, rfl⟩ := h.fields T_60
  obtain ⟨s, rfl, hs⟩ := g1.str_inv T_9
  obtain ⟨e, rfl, he⟩ := g4.int_inv T_3
  obtain ⟨z1, rfl, hz1⟩ := imp_inv g2
  obtain ⟨z0, rfl, hz0⟩ := imp_inv g3
  exact ⟨⟨s, e, z1, z0⟩, rfl, hs, wf_I64 he, hz1, hz0⟩
theorem lnk_inv (c : List D) (h : TC T 109 c) : ∃ x : Lnk, c = [d_i x.bus, d_i x.pos] ∧ okLnk x := by
  obtain ⟨p1, r1, rfl, g1, p2, r2, rfl, g2, rfl⟩ := h.fields T_109
  obtain ⟨a, rfl, ha⟩ := g1.int_inv T_3
  obtain ⟨b, rfl, hb⟩ := g2.int_inv T_3
  exact ⟨⟨a, b⟩, rfl, wf_I64 ha, wf_I64 hb⟩
theorem bay_inv (c : List D) (h : TC T 52 c) : ∃ x, c = bayD x ∧ okBay x := by
  obtain ⟨p1, r1, rfl, g1, p2, r2, rfl, g2, p3, r3, rfl, g3, p4, r4, rfl, g4, p5, r5, rfl, g5, p6, r6, rfl, g6, p7, r7, rfl, g7, p8, r8, rfl, g8, p9, r9, rfl, g9, pa, ra, rfl, ga, pb, rb, rfl, gb, rfl⟩ := h.fields T_52
  obtain ⟨s, rfl, hs⟩ := g1.str_inv T_9
  obtain ⟨k, rfl, hk⟩ := g2.int_inv T_3
  obtain ⟨o, rfl, ho⟩ := g3.int_inv T_3
  obtain ⟨e, rfl, he⟩ := g4.int_inv T_3
  obtain ⟨z, rfl, hz⟩ := imp_inv g5
  obtain ⟨chunks, rfl, hl, hc⟩ := g6.slice_inv T_50
  obtain ⟨ls, l1, l2, l3⟩ := list_inv (F := lnksD) (f := fun x : Lnk => [d_i x.bus, d_i x.pos]) (ok := okLnk) rfl (fun _ _ => rfl) lnk_inv chunks hc
  obtain ⟨cl, rfl⟩ := g7.bool_inv T_4
  obtain ⟨ct, rfl, h1⟩ := g8.int_inv T_3
  obtain ⟨vt, rfl, h2⟩ := g9.int_inv T_3
  obtain ⟨sa, rfl, h3⟩ := ga.int_inv T_3
  obtain ⟨tr, rfl, h4⟩ := gb.int_inv T_3
  refine ⟨⟨s, k, o, e, z, ls, cl, ct, vt, sa, tr⟩, by rw [l1, l2]; rfl, hs, ⟨wf_I64 hk, wf_I64 ho, wf_I64 he⟩, hz, ⟨by rw [← l1]; exact hl, l3⟩, wf_I64 h1, wf_I64 h2, wf_I64 h3, wf_I64 h4⟩
theorem stn_inv {cs : List D} (h : TFields T [(0, 9), (1, 22), (2, 23), (3, 24), (4, 25)] cs) : ∃ s : Stn, cs = stnD s ∧ okStn s := by
  obtain ⟨p1, r1, rfl, g1, p2, r2, rfl, g2, p3, r3, rfl, g3, p4, r4, rfl, g4, p5, r5, rfl, g5, rfl⟩ := h
  obtain ⟨n, rfl, hn⟩ := g1.str_inv T_9
  obtain ⟨c2, rfl, hl2, hc2⟩ := g2.slice_inv T_22
  obtain ⟨c3, rfl, hl3, hc3⟩ := g3.slice_inv T_23
  obtain ⟨c4, rfl, hl4, hc4⟩ := g4.slice_inv T_24
  obtain ⟨c5, rfl, hl5, hc5⟩ := g5.slice_inv T_25
  obtain ⟨bu, b1, b2, b3⟩ := list_inv (F := busesD) (f := fun x => [d_s x]) (ok := fun x : ByteArray => x.size ≤ maxLen) rfl (fun _ _ => rfl) (fun c h => by
    obtain ⟨s, rfl, hs⟩ := h.str_inv T_9; exact ⟨s, rfl, hs⟩) c2 hc2
  obtain ⟨li, l1, l2, l3⟩ := list_inv (F := linesD) rfl (fun _ _ => rfl) lin_inv c3 hc3
  obtain ⟨so, s1, s2, s3⟩ := list_inv (F := srcsD) rfl (fun _ _ => rfl) src_inv c4 hc4
  obtain ⟨ba, a1, a2, a3⟩ := list_inv (F := baysD) rfl (fun _ _ => rfl) bay_inv c5 hc5
  refine ⟨⟨n, bu, li, so, ba⟩, ?_, hn, ⟨by rw [← b1]; exact hl2, b3⟩, ⟨by rw [← l1]; exact hl3, l3⟩, ⟨by rw [← s1]; exact hl4, s3⟩, by rw [← a1]; exact hl5, a3⟩
  rw [b1, b2, l1, l2, s1, s2, a1, a2]; rfl
theorem targ_stn {d : D} (hd : ∃ ti cs, T 27 = some ti ∧ TC T 27 cs ∧ d = (if ti.td.isAgg then .agg cs else cs.headD default)) : ∃ s : Stn, d = .agg (stnD s) ∧ okStn s := by
  obtain ⟨cs, rfl, k⟩ := targ_struct T_27 hd
  obtain ⟨s, rfl, h⟩ := stn_inv k
  exact ⟨s, rfl, h⟩
end Go.Proofs.YtfleadelfklenaaDoor
end
section
namespace Go.Proofs.YtfleadelfklenaaDoor
open Go.VD
set_option linter.unusedVariables false
set_option linter.unusedSimpArgs false
set_option maxRecDepth 100000
def ltB (n : Nat) : Bool := (decide (65 ≤ n) && decide (n ≤ 90)) || (decide (97 ≤ n) && decide (n ≤ 122))
def nmB (i n : Nat) : Bool := ltB n || (decide (0 < i) && (digB n || decide (n = 95)))
def nmAll (s : ByteArray) : Bool := (List.range s.size).all fun i => nmB i (bt s i)
def nameS (s : ByteArray) : Bool := decide (s.size ≠ 0) && (decide (s.size ≤ 12) && nmAll s)
theorem nmB_lt (i n : Nat) (h : nmB i n = true) : n < 128 := by
  unfold nmB ltB digB at h; simp at h; omega
theorem nmAll_of {s : ByteArray} (h : ∀ i, i < s.size → nmB i (bt s i) = true) : nmAll s = true := by
  unfold nmAll; rw [List.all_eq_true]; intro i hi; exact h i (List.mem_range.1 hi)
theorem nmAll_not {s : ByteArray} {i : Nat} (hi : i < s.size) (h : nmB i (bt s i) = false) : nmAll s = false := by
  unfold nmAll
  rw [Bool.eq_false_iff]
  intro hall
  rw [List.all_eq_true] at hall
  have := hall i (List.mem_range.2 hi)
  rw [h] at this; cases this
theorem nm_int (i n : Nat) : nmB i n = true ↔ ((65 ≤ (n : Int) ∧ (n : Int) ≤ 90) ∨ (97 ≤ (n : Int) ∧ (n : Int) ≤ 122)) ∨ (0 < i ∧ ((48 ≤ (n : Int) ∧ (n : Int) ≤ 57) ∨ (n : Int) = 95)) := by
  unfold nmB ltB digB
  simp only [Bool.or_eq_true, Bool.and_eq_true, decide_eq_true_eq]
  omega
def lp_nameLoop (s : ByteArray) : LoopO := loopRule2 (α := Nat) (β := Unit) (γ := Unit) [some 0] (fun n => n ≤ s.size ∧ ∀ i, i < n → nmB i (bt s i) = true) (fun n => [(0, .v (.string s)), (8, .ptr 0 0)]) (fun n => [some ⟨itTy, [.v (.string s), .v (.int .i64 (n : Int))], true⟩]) (0) (fun _ => nmAll s = true) (fun _ => (.exit 0, [(0, .v (.string s))], [])) (fun _ => nmAll s = false) (fun _ => (.ret, [(2, .v (.bool false))], []))
theorem nameLoop_rule (s : ByteArray) (hpre : s.size ≤ 9223372036854775807) : LRuleP Tryd.prog Tryd.f32.ntmps (loopAt ((Tryd.f32.body).getD .skip) 2) (lp_nameLoop s) := by
  refine lrule_of2 (α := Nat) (β := Unit) (γ := Unit) (call := noCalls) (lp := fun _ => none) (N := 10) T_ok mixed noCalls_ok (fun n => s.size - n) (by kernel_rfl) (LpAllP.none _) ?_
  intro x hJ
  refine of_eq (B := letI z11 := (D.v (Value.string s)); letI z24 := ((x : Nat) : Int); letI z21 := (Int.toNat z24); letI z26 := Utf8.decode s z21; letI z0 := (Option.some (Blk.mk (1000000007 : Nat) [z11, (D.v (Value.int IntKind.i64 (((z21 + (Prod.snd z26)) : Nat) : Int)))] Bool.true)); letI z22 := (Exit.exit (0 : Nat)); letI z3 := (Prod.mk (0 : Nat) z11); letI z25 := ([] : List (Option Blk)); letI z1 := (Prod.mk z22 (Prod.mk [z3] z25)); letI z9 := (Prod.mk (2 : Nat) (D.v (Value.bool Bool.false))); letI z2 := (Prod.mk Exit.ret (Prod.mk [z9] z25)); letI z4 := (([] : List Value) = ([] : List Value)); letI z5 := (((Prod.fst z26) : Nat) : Int); letI z6 := (Prod.mk (8 : Nat) (D.ptr (0 : Nat) (0 : Nat))); letI z7 := (List (Option Nat)); letI z8 := ByteArray.size s; letI z10 := (Exit.ret = z22); letI z12 := ((nmAll s) = Bool.false); letI z13 := ((nmAll s) = Bool.true); letI z14 := Exit.ret = Exit.ret; letI z15 := (z24 == (0 : Int)); letI z16 := (Decidable.decide ((48 : Int) ≤ z5)); letI z17 := (!(Decidable.decide (z5 ≤ (122 : Int)))); letI z18 := (!(Decidable.decide (z5 ≤ (57 : Int)))); letI z19 := (z5 != (95 : Int)); letI z20 := (Option.some (Blk.mk (1000000007 : Nat) [z11, (D.v (Value.int IntKind.i64 z24))] Bool.true)); letI z23 := (Decidable.decide ((97 : Int) ≤ z5)); (pcond (Decidable.decide (z21 < z8)) (True ∧ (True ∧ (True ∧ (True ∧ (True ∧ (True ∧ (True ∧ (True ∧ (pcond (Decidable.decide ((65 : Int) ≤ z5)) (True ∧ (True ∧ (True ∧ (True ∧ (pcond (Decidable.decide (z5 ≤ (90 : Int))) (z4 ∧ (z4 ∧ (True ∧ (True ∧ (True ∧ (True ∧ (True ∧ (pcond z16 (True ∧ (True ∧ (True ∧ (True ∧ (True ∧ (True ∧ (True ∧ (z4 ∧ (z4 ∧ (z4 ∧ (z4 ∧ (z4 ∧ (z4 ∧ (True ∧ (∃ (y : Nat), (∃ (kp : z7), (((z8 - y) < (z8 - x)) ∧ (((y ≤ z8) ∧ (∀ (i : Nat), ((i < y) → ((nmB i (bt s i)) = Bool.true)))) ∧ (viewAll kp [z3, z6] [z0] [z3, z6] [(Option.some (Blk.mk itTy [z11, (D.v (Value.int IntKind.i64 ((y : Nat) : Int)))] Bool.true))]))))))))))))))))))) (True ∧ (True ∧ (True ∧ (True ∧ (True ∧ (z4 ∧ (z4 ∧ (z4 ∧ (z4 ∧ (z4 ∧ (z4 ∧ (True ∧ (∃ (y : Nat), (∃ (kp : z7), (((z8 - y) < (z8 - x)) ∧ (((y ≤ z8) ∧ (∀ (i : Nat), ((i < y) → ((nmB i (bt s i)) = Bool.true)))) ∧ (viewAll kp [z3, z6] [z0] [z3, z6] [(Option.some (Blk.mk itTy [z11, (D.v (Value.int IntKind.i64 ((y : Nat) : Int)))] Bool.true))]))))))))))))))))))))))))) (True ∧ (True ∧ (True ∧ (pcond z23 (True ∧ (True ∧ (True ∧ (True ∧ (True ∧ (True ∧ (True ∧ (True ∧ (pcond z16 (True ∧ (True ∧ (True ∧ (True ∧ (True ∧ (True ∧ (True ∧ (pcond z17 (True ∧ (True ∧ (True ∧ (pcond z15 (z4 ∧ (z4 ∧ (True ∧ (True ∧ (True ∧ ((∃ (r : Unit), (∃ (kp : z7), (z13 ∧ (z10 ∧ (viewAll kp [z3] [z0] (Prod.fst (Prod.snd ((fun (x_1 : Unit) => z1) r))) (Prod.snd (Prod.snd ((fun (x_1 : Unit) => z1) r)))))))) ∨ (∃ (r : Unit), (∃ (kp : z7), (z12 ∧ (z14 ∧ (viewAll kp [z9] [z0] (Prod.fst (Prod.snd ((fun (x_1 : Unit) => z2) r))) (Prod.snd (Prod.snd ((fun (x_1 : Unit) => z2) r)))))))))))))) (True ∧ (True ∧ (True ∧ (pcond z18 (True ∧ (True ∧ (True ∧ (True ∧ (True ∧ (pcond z19 (True ∧ ((∃ (r : Unit), (∃ (kp : z7), (z13 ∧ (z10 ∧ (viewAll kp [z3] [z0] (Prod.fst (Prod.snd ((fun (x_1 : Unit) => z1) r))) (Prod.snd (Prod.snd ((fun (x_1 : Unit) => z1) r)))))))) ∨ (∃ (r : Unit), (∃ (kp : z7), (z12 ∧ (z14 ∧ (viewAll kp [z9] [z0] (Prod.fst (Prod.snd ((fun (x_1 : Unit) => z2) r))) (Prod.snd (Prod.snd ((fun (x_1 : Unit) => z2) r)))))))))) (∃ (y : Nat), (∃ (kp : z7), (((z8 - y) < (z8 - x)) ∧ (((y ≤ z8) ∧ (∀ (i : Nat), ((i < y) → ((nmB i (bt s i)) = Bool.true)))) ∧ (viewAll kp [z3, z6] [z0] [z3, z6] [(Option.some (Blk.mk itTy [z11, (D.v (Value.int IntKind.i64 ((y : Nat) : Int)))] Bool.true))]))))))))))) (True ∧ (True ∧ (True ∧ (∃ (y : Nat), (∃ (kp : z7), (((z8 - y) < (z8 - x)) ∧ (((y ≤ z8) ∧ (∀ (i : Nat), ((i < y) → ((nmB i (bt s i)) = Bool.true)))) ∧ (viewAll kp [z3, z6] [z0] [z3, z6] [(Option.some (Blk.mk itTy [z11, (D.v (Value.int IntKind.i64 ((y : Nat) : Int)))] Bool.true))])))))))))))))))) (z4 ∧ (z4 ∧ (z4 ∧ (z4 ∧ (z4 ∧ (z4 ∧ (True ∧ (∃ (y : Nat), (∃ (kp : z7), (((z8 - y) < (z8 - x)) ∧ (((y ≤ z8) ∧ (∀ (i : Nat), ((i < y) → ((nmB i (bt s i)) = Bool.true)))) ∧ (viewAll kp [z3, z6] [z0] [z3, z6] [(Option.some (Blk.mk itTy [z11, (D.v (Value.int IntKind.i64 ((y : Nat) : Int)))] Bool.true))])))))))))))))))))))) (True ∧ (True ∧ (True ∧ (True ∧ (True ∧ (pcond z17 (True ∧ (True ∧ (True ∧ (pcond z15 (z4 ∧ (z4 ∧ (True ∧ (True ∧ (True ∧ ((∃ (r : Unit), (∃ (kp : z7), (z13 ∧ (z10 ∧ (viewAll kp [z3] [z0] (Prod.fst (Prod.snd ((fun (x_1 : Unit) => z1) r))) (Prod.snd (Prod.snd ((fun (x_1 : Unit) => z1) r)))))))) ∨ (∃ (r : Unit), (∃ (kp : z7), (z12 ∧ (z14 ∧ (viewAll kp [z9] [z0] (Prod.fst (Prod.snd ((fun (x_1 : Unit) => z2) r))) (Prod.snd (Prod.snd ((fun (x_1 : Unit) => z2) r)))))))))))))) (True ∧ (True ∧ (True ∧ (True ∧ (True ∧ (True ∧ (True ∧ (True ∧ (pcond z19 (True ∧ ((∃ (r : Unit), (∃ (kp : z7), (z13 ∧ (z10 ∧ (viewAll kp [z3] [z0] (Prod.fst (Prod.snd ((fun (x_1 : Unit) => z1) r))) (Prod.snd (Prod.snd ((fun (x_1 : Unit) => z1) r)))))))) ∨ (∃ (r : Unit), (∃ (kp : z7), (z12 ∧ (z14 ∧ (viewAll kp [z9] [z0] (Prod.fst (Prod.snd ((fun (x_1 : Unit) => z2) r))) (Prod.snd (Prod.snd ((fun (x_1 : Unit) => z2) r)))))))))) (∃ (y : Nat), (∃ (kp : z7), (((z8 - y) < (z8 - x)) ∧ (((y ≤ z8) ∧ (∀ (i : Nat), ((i < y) → ((nmB i (bt s i)) = Bool.true)))) ∧ (viewAll kp [z3, z6] [z0] [z3, z6] [(Option.some (Blk.mk itTy [z11, (D.v (Value.int IntKind.i64 ((y : Nat) : Int)))] Bool.true))])))))))))))))))))) (z4 ∧ (z4 ∧ (z4 ∧ (z4 ∧ (z4 ∧ (z4 ∧ (True ∧ (∃ (y : Nat), (∃ (kp : z7), (((z8 - y) < (z8 - x)) ∧ (((y ≤ z8) ∧ (∀ (i : Nat), ((i < y) → ((nmB i (bt s i)) = Bool.true)))) ∧ (viewAll kp [z3, z6] [z0] [z3, z6] [(Option.some (Blk.mk itTy [z11, (D.v (Value.int IntKind.i64 ((y : Nat) : Int)))] Bool.true))]))))))))))))))))))))))))))) (True ∧ (True ∧ (True ∧ (True ∧ (True ∧ (True ∧ (pcond z16 (True ∧ (True ∧ (True ∧ (True ∧ (True ∧ (True ∧ (True ∧ (True ∧ (True ∧ (True ∧ (pcond z15 (z4 ∧ (z4 ∧ (True ∧ (True ∧ (True ∧ ((∃ (r : Unit), (∃ (kp : z7), (z13 ∧ (z10 ∧ (viewAll kp [z3] [z0] (Prod.fst (Prod.snd ((fun (x_1 : Unit) => z1) r))) (Prod.snd (Prod.snd ((fun (x_1 : Unit) => z1) r)))))))) ∨ (∃ (r : Unit), (∃ (kp : z7), (z12 ∧ (z14 ∧ (viewAll kp [z9] [z0] (Prod.fst (Prod.snd ((fun (x_1 : Unit) => z2) r))) (Prod.snd (Prod.snd ((fun (x_1 : Unit) => z2) r)))))))))))))) (True ∧ (True ∧ (True ∧ (pcond z18 (True ∧ (True ∧ (True ∧ (True ∧ (True ∧ (pcond z19 (True ∧ ((∃ (r : Unit), (∃ (kp : z7), (z13 ∧ (z10 ∧ (viewAll kp [z3] [z0] (Prod.fst (Prod.snd ((fun (x_1 : Unit) => z1) r))) (Prod.snd (Prod.snd ((fun (x_1 : Unit) => z1) r)))))))) ∨ (∃ (r : Unit), (∃ (kp : z7), (z12 ∧ (z14 ∧ (viewAll kp [z9] [z0] (Prod.fst (Prod.snd ((fun (x_1 : Unit) => z2) r))) (Prod.snd (Prod.snd ((fun (x_1 : Unit) => z2) r)))))))))) (∃ (y : Nat), (∃ (kp : z7), (((z8 - y) < (z8 - x)) ∧ (((y ≤ z8) ∧ (∀ (i : Nat), ((i < y) → ((nmB i (bt s i)) = Bool.true)))) ∧ (viewAll kp [z3, z6] [z0] [z3, z6] [(Option.some (Blk.mk itTy [z11, (D.v (Value.int IntKind.i64 ((y : Nat) : Int)))] Bool.true))]))))))))))) (True ∧ (True ∧ (True ∧ (∃ (y : Nat), (∃ (kp : z7), (((z8 - y) < (z8 - x)) ∧ (((y ≤ z8) ∧ (∀ (i : Nat), ((i < y) → ((nmB i (bt s i)) = Bool.true)))) ∧ (viewAll kp [z3, z6] [z0] [z3, z6] [(Option.some (Blk.mk itTy [z11, (D.v (Value.int IntKind.i64 ((y : Nat) : Int)))] Bool.true))]))))))))))))))))))))))) (True ∧ (True ∧ (True ∧ (True ∧ (True ∧ (True ∧ (True ∧ (True ∧ (pcond z15 (z4 ∧ (z4 ∧ (True ∧ (True ∧ (True ∧ ((∃ (r : Unit), (∃ (kp : z7), (z13 ∧ (z10 ∧ (viewAll kp [z3] [z0] (Prod.fst (Prod.snd ((fun (x_1 : Unit) => z1) r))) (Prod.snd (Prod.snd ((fun (x_1 : Unit) => z1) r)))))))) ∨ (∃ (r : Unit), (∃ (kp : z7), (z12 ∧ (z14 ∧ (viewAll kp [z9] [z0] (Prod.fst (Prod.snd ((fun (x_1 : Unit) => z2) r))) (Prod.snd (Prod.snd ((fun (x_1 : Unit) => z2) r)))))))))))))) (True ∧ (True ∧ (True ∧ (True ∧ (True ∧ (True ∧ (True ∧ (True ∧ (pcond z19 (True ∧ ((∃ (r : Unit), (∃ (kp : z7), (z13 ∧ (z10 ∧ (viewAll kp [z3] [z0] (Prod.fst (Prod.snd ((fun (x_1 : Unit) => z1) r))) (Prod.snd (Prod.snd ((fun (x_1 : Unit) => z1) r)))))))) ∨ (∃ (r : Unit), (∃ (kp : z7), (z12 ∧ (z14 ∧ (viewAll kp [z9] [z0] (Prod.fst (Prod.snd ((fun (x_1 : Unit) => z2) r))) (Prod.snd (Prod.snd ((fun (x_1 : Unit) => z2) r)))))))))) (∃ (y : Nat), (∃ (kp : z7), (((z8 - y) < (z8 - x)) ∧ (((y ≤ z8) ∧ (∀ (i : Nat), ((i < y) → ((nmB i (bt s i)) = Bool.true)))) ∧ (viewAll kp [z3, z6] [z0] [z3, z6] [(Option.some (Blk.mk itTy [z11, (D.v (Value.int IntKind.i64 ((y : Nat) : Int)))] Bool.true))]))))))))))))))))))))))))))))))))))))))) (True ∧ (True ∧ (True ∧ (True ∧ (True ∧ (pcond z23 (True ∧ (True ∧ (True ∧ (True ∧ (True ∧ (True ∧ (True ∧ (True ∧ (pcond z16 (True ∧ (True ∧ (True ∧ (True ∧ (True ∧ (True ∧ (True ∧ (pcond z17 (True ∧ (True ∧ (True ∧ (pcond z15 (z4 ∧ (z4 ∧ (True ∧ (True ∧ (True ∧ ((∃ (r : Unit), (∃ (kp : z7), (z13 ∧ (z10 ∧ (viewAll kp [z3] [z0] (Prod.fst (Prod.snd ((fun (x_1 : Unit) => z1) r))) (Prod.snd (Prod.snd ((fun (x_1 : Unit) => z1) r)))))))) ∨ (∃ (r : Unit), (∃ (kp : z7), (z12 ∧ (z14 ∧ (viewAll kp [z9] [z0] (Prod.fst (Prod.snd ((fun (x_1 : Unit) => z2) r))) (Prod.snd (Prod.snd ((fun (x_1 : Unit) => z2) r)))))))))))))) (True ∧ (True ∧ (True ∧ (pcond z18 (True ∧ (True ∧ (True ∧ (True ∧ (True ∧ (pcond z19 (True ∧ ((∃ (r : Unit), (∃ (kp : z7), (z13 ∧ (z10 ∧ (viewAll kp [z3] [z0] (Prod.fst (Prod.snd ((fun (x_1 : Unit) => z1) r))) (Prod.snd (Prod.snd ((fun (x_1 : Unit) => z1) r)))))))) ∨ (∃ (r : Unit), (∃ (kp : z7), (z12 ∧ (z14 ∧ (viewAll kp [z9] [z0] (Prod.fst (Prod.snd ((fun (x_1 : Unit) => z2) r))) (Prod.snd (Prod.snd ((fun (x_1 : Unit) => z2) r)))))))))) (∃ (y : Nat), (∃ (kp : z7), (((z8 - y) < (z8 - x)) ∧ (((y ≤ z8) ∧ (∀ (i : Nat), ((i < y) → ((nmB i (bt s i)) = Bool.true)))) ∧ (viewAll kp [z3, z6] [z0] [z3, z6] [(Option.some (Blk.mk itTy [z11, (D.v (Value.int IntKind.i64 ((y : Nat) : Int)))] Bool.true))]))))))))))) (True ∧ (True ∧ (True ∧ (∃ (y : Nat), (∃ (kp : z7), (((z8 - y) < (z8 - x)) ∧ (((y ≤ z8) ∧ (∀ (i : Nat), ((i < y) → ((nmB i (bt s i)) = Bool.true)))) ∧ (viewAll kp [z3, z6] [z0] [z3, z6] [(Option.some (Blk.mk itTy [z11, (D.v (Value.int IntKind.i64 ((y : Nat) : Int)))] Bool.true))])))))))))))))))) (z4 ∧ (z4 ∧ (z4 ∧ (z4 ∧ (z4 ∧ (z4 ∧ (True ∧ (∃ (y : Nat), (∃ (kp : z7), (((z8 - y) < (z8 - x)) ∧ (((y ≤ z8) ∧ (∀ (i : Nat), ((i < y) → ((nmB i (bt s i)) = Bool.true)))) ∧ (viewAll kp [z3, z6] [z0] [z3, z6] [(Option.some (Blk.mk itTy [z11, (D.v (Value.int IntKind.i64 ((y : Nat) : Int)))] Bool.true))])))))))))))))))))))) (True ∧ (True ∧ (True ∧ (True ∧ (True ∧ (pcond z17 (True ∧ (True ∧ (True ∧ (pcond z15 (z4 ∧ (z4 ∧ (True ∧ (True ∧ (True ∧ ((∃ (r : Unit), (∃ (kp : z7), (z13 ∧ (z10 ∧ (viewAll kp [z3] [z0] (Prod.fst (Prod.snd ((fun (x_1 : Unit) => z1) r))) (Prod.snd (Prod.snd ((fun (x_1 : Unit) => z1) r)))))))) ∨ (∃ (r : Unit), (∃ (kp : z7), (z12 ∧ (z14 ∧ (viewAll kp [z9] [z0] (Prod.fst (Prod.snd ((fun (x_1 : Unit) => z2) r))) (Prod.snd (Prod.snd ((fun (x_1 : Unit) => z2) r)))))))))))))) (True ∧ (True ∧ (True ∧ (True ∧ (True ∧ (True ∧ (True ∧ (True ∧ (pcond z19 (True ∧ ((∃ (r : Unit), (∃ (kp : z7), (z13 ∧ (z10 ∧ (viewAll kp [z3] [z0] (Prod.fst (Prod.snd ((fun (x_1 : Unit) => z1) r))) (Prod.snd (Prod.snd ((fun (x_1 : Unit) => z1) r)))))))) ∨ (∃ (r : Unit), (∃ (kp : z7), (z12 ∧ (z14 ∧ (viewAll kp [z9] [z0] (Prod.fst (Prod.snd ((fun (x_1 : Unit) => z2) r))) (Prod.snd (Prod.snd ((fun (x_1 : Unit) => z2) r)))))))))) (∃ (y : Nat), (∃ (kp : z7), (((z8 - y) < (z8 - x)) ∧ (((y ≤ z8) ∧ (∀ (i : Nat), ((i < y) → ((nmB i (bt s i)) = Bool.true)))) ∧ (viewAll kp [z3, z6] [z0] [z3, z6] [(Option.some (Blk.mk itTy [z11, (D.v (Value.int IntKind.i64 ((y : Nat) : Int)))] Bool.true))])))))))))))))))))) (z4 ∧ (z4 ∧ (z4 ∧ (z4 ∧ (z4 ∧ (z4 ∧ (True ∧ (∃ (y : Nat), (∃ (kp : z7), (((z8 - y) < (z8 - x)) ∧ (((y ≤ z8) ∧ (∀ (i : Nat), ((i < y) → ((nmB i (bt s i)) = Bool.true)))) ∧ (viewAll kp [z3, z6] [z0] [z3, z6] [(Option.some (Blk.mk itTy [z11, (D.v (Value.int IntKind.i64 ((y : Nat) : Int)))] Bool.true))]))))))))))))))))))))))))))) (True ∧ (True ∧ (True ∧ (True ∧ (True ∧ (True ∧ (pcond z16 (True ∧ (True ∧ (True ∧ (True ∧ (True ∧ (True ∧ (True ∧ (True ∧ (True ∧ (True ∧ (pcond z15 (z4 ∧ (z4 ∧ (True ∧ (True ∧ (True ∧ ((∃ (r : Unit), (∃ (kp : z7), (z13 ∧ (z10 ∧ (viewAll kp [z3] [z0] (Prod.fst (Prod.snd ((fun (x_1 : Unit) => z1) r))) (Prod.snd (Prod.snd ((fun (x_1 : Unit) => z1) r)))))))) ∨ (∃ (r : Unit), (∃ (kp : z7), (z12 ∧ (z14 ∧ (viewAll kp [z9] [z0] (Prod.fst (Prod.snd ((fun (x_1 : Unit) => z2) r))) (Prod.snd (Prod.snd ((fun (x_1 : Unit) => z2) r)))))))))))))) (True ∧ (True ∧ (True ∧ (pcond z18 (True ∧ (True ∧ (True ∧ (True ∧ (True ∧ (pcond z19 (True ∧ ((∃ (r : Unit), (∃ (kp : z7), (z13 ∧ (z10 ∧ (viewAll kp [z3] [z0] (Prod.fst (Prod.snd ((fun (x_1 : Unit) => z1) r))) (Prod.snd (Prod.snd ((fun (x_1 : Unit) => z1) r)))))))) ∨ (∃ (r : Unit), (∃ (kp : z7), (z12 ∧ (z14 ∧ (viewAll kp [z9] [z0] (Prod.fst (Prod.snd ((fun (x_1 : Unit) => z2) r))) (Prod.snd (Prod.snd ((fun (x_1 : Unit) => z2) r)))))))))) (∃ (y : Nat), (∃ (kp : z7), (((z8 - y) < (z8 - x)) ∧ (((y ≤ z8) ∧ (∀ (i : Nat), ((i < y) → ((nmB i (bt s i)) = Bool.true)))) ∧ (viewAll kp [z3, z6] [z0] [z3, z6] [(Option.some (Blk.mk itTy [z11, (D.v (Value.int IntKind.i64 ((y : Nat) : Int)))] Bool.true))]))))))))))) (True ∧ (True ∧ (True ∧ (∃ (y : Nat), (∃ (kp : z7), (((z8 - y) < (z8 - x)) ∧ (((y ≤ z8) ∧ (∀ (i : Nat), ((i < y) → ((nmB i (bt s i)) = Bool.true)))) ∧ (viewAll kp [z3, z6] [z0] [z3, z6] [(Option.some (Blk.mk itTy [z11, (D.v (Value.int IntKind.i64 ((y : Nat) : Int)))] Bool.true))]))))))))))))))))))))))) (True ∧ (True ∧ (True ∧ (True ∧ (True ∧ (True ∧ (True ∧ (True ∧ (pcond z15 (z4 ∧ (z4 ∧ (True ∧ (True ∧ (True ∧ ((∃ (r : Unit), (∃ (kp : z7), (z13 ∧ (z10 ∧ (viewAll kp [z3] [z0] (Prod.fst (Prod.snd ((fun (x_1 : Unit) => z1) r))) (Prod.snd (Prod.snd ((fun (x_1 : Unit) => z1) r)))))))) ∨ (∃ (r : Unit), (∃ (kp : z7), (z12 ∧ (z14 ∧ (viewAll kp [z9] [z0] (Prod.fst (Prod.snd ((fun (x_1 : Unit) => z2) r))) (Prod.snd (Prod.snd ((fun (x_1 : Unit) => z2) r)))))))))))))) (True ∧ (True ∧ (True ∧ (True ∧ (True ∧ (True ∧ (True ∧ (True ∧ (pcond z19 (True ∧ ((∃ (r : Unit), (∃ (kp : z7), (z13 ∧ (z10 ∧ (viewAll kp [z3] [z0] (Prod.fst (Prod.snd ((fun (x_1 : Unit) => z1) r))) (Prod.snd (Prod.snd ((fun (x_1 : Unit) => z1) r)))))))) ∨ (∃ (r : Unit), (∃ (kp : z7), (z12 ∧ (z14 ∧ (viewAll kp [z9] [z0] (Prod.fst (Prod.snd ((fun (x_1 : Unit) => z2) r))) (Prod.snd (Prod.snd ((fun (x_1 : Unit) => z2) r)))))))))) (∃ (y : Nat), (∃ (kp : z7), (((z8 - y) < (z8 - x)) ∧ (((y ≤ z8) ∧ (∀ (i : Nat), ((i < y) → ((nmB i (bt s i)) = Bool.true)))) ∧ (viewAll kp [z3, z6] [z0] [z3, z6] [(Option.some (Blk.mk itTy [z11, (D.v (Value.int IntKind.i64 ((y : Nat) : Int)))] Bool.true))]))))))))))))))))))))))))))))))))))))))))))))) (True ∧ ((∃ (r : Unit), (∃ (kp : z7), (z13 ∧ ((z22 = z22) ∧ (viewAll kp [z3] [z20] (Prod.fst (Prod.snd ((fun (x_1 : Unit) => z1) r))) (Prod.snd (Prod.snd ((fun (x_1 : Unit) => z1) r)))))))) ∨ (∃ (r : Unit), (∃ (kp : z7), (z12 ∧ ((z22 = Exit.ret) ∧ (viewAll kp ([] : List (Prod Nat D)) [z20] (Prod.fst (Prod.snd ((fun (x_1 : Unit) => z2) r))) (Prod.snd (Prod.snd ((fun (x_1 : Unit) => z2) r)))))))))))) (by kernel_rfl) ?_
  simp only [true_and, and_true, and_self, IsInt_lit, IsBool_lit, IsStr_lit, IsSl_lit, cellN_lit, cellL_lit, Bool.not_eq_true', Bool.not_eq_false', Bool.not_true, Bool.not_false, Int.reduceLE, Int.reduceLT, Int.reduceNeg, Nat.le_refl, Int.le_refl, Nat.reduceLT, Nat.reduceLeDiff, Nat.reduceEqDiff, D.v.injEq, D.tup.injEq, D.agg.injEq, D.ro.injEq, List.cons.injEq, Value.int.injEq, Value.bool.injEq, pcond_true, pcond_false, NamelessL, Nameless, Nat.reduceMul, Nat.reduceAdd, Nat.zero_add, Int.toNat_natCast] at *
  obtain ⟨hx, hall⟩ := hJ
  obtain ⟨p1, p2⟩ := dec_pred (nmB_lt x) s x
  have hx0 : (((x : Int) == 0) = true) ↔ x = 0 := by rw [beq_iff_eq]; omega
  refine pcond_intro (fun h => ?_) (fun h => .inl ⟨(), [], ?_, ⟨rfl, rfl, ⟨trivial, rfl⟩, trivial⟩⟩)
  · simp only [decide_eq_true_eq] at h
    cases hN : nmB x (bt s x) with
    | true =>
      rw [hN] at p1
      have q := (nm_int _ _).1 p1
      have q2 := p2 hN
      have fin : ∀ i, i < x + 1 → nmB i (bt s i) = true := fun i hi => by
        rcases Nat.lt_or_ge i x with h2 | h2
        · exact hall i h2
        · rw [show i = x by omega]; exact hN
      clear p1 p2
      rw [q2]
      repeat' (refine pcond_intro (fun _ => ?_) (fun _ => ?_))
      all_goals first
        | exact ⟨x + 1, [some 0], by omega, ⟨by omega, fin⟩, ⟨rfl, ⟨⟨rfl, trivial, trivial, trivial⟩, rfl⟩, ⟨trivial, rfl⟩, ⟨trivial, rfl⟩, trivial⟩⟩
        | (exfalso; simp only [decide_eq_true_eq, decide_eq_false_iff_not, bne_iff_ne, bne_eq_false_iff_eq, beq_eq_false_iff_ne, beq_iff_eq, ne_eq, Bool.not_eq_true', Bool.not_eq_false'] at *; generalize (Utf8.decode s x).1 = c at *; omega)
    | false =>
      rw [hN] at p1
      have q : ¬ _ := fun h => absurd ((nm_int _ _).2 h) (by rw [p1]; simp)
      have no := nmAll_not h hN
      clear p1 p2 hall
      repeat' (refine pcond_intro (fun _ => ?_) (fun _ => ?_))
      all_goals first
        | exact .inr ⟨(), [], no, ⟨rfl, rfl, ⟨trivial, rfl⟩, trivial⟩⟩
        | (exfalso; simp only [decide_eq_true_eq, decide_eq_false_iff_not, bne_iff_ne, bne_eq_false_iff_eq, beq_eq_false_iff_ne, beq_iff_eq, ne_eq, Bool.not_eq_true', Bool.not_eq_false'] at *; generalize (Utf8.decode s x).1 = c at *; omega)
  · simp only [decide_eq_false_iff_not] at h
    exact nmAll_of fun i hi => hall i (by omega)
theorem empty_dec (s : ByteArray) : (s.toList == []) = decide (s.size = 0) := by
  rw [ByteArray.toList_eq, size_list]
  generalize s.data.toList = l
  cases l <;> simp
theorem name_pure (s : ByteArray) (hpre : s.size ≤ 9223372036854775807) : PureJ Tryd.prog 32 [.v (.string s)] (.v (.bool (nameS s))) := by
  refine pureJ_of_vcp (call := noCalls) (lp := fun reg__ => bif Nat.beq reg__ 2 then some (lp_nameLoop s) else none) (N := 10) T_ok mixed noCalls_ok Tryd.func32 rfl (by decide) (by kernel_rfl) (by kernel_rfl) (of_eq (B := LRuleP Tryd.prog Tryd.f32.ntmps (loopAt ((Tryd.f32.body).getD .skip) 2) (lp_nameLoop s) ∧ True) (by kernel_rfl) ⟨nameLoop_rule s hpre, trivial⟩) (by first | trivial | (simp only [NamelessL, Nameless, and_self, and_true, true_and]; done) | (simp [NamelessL, Nameless, u32s_nameless, namelessL_ints]; done)) (by first | trivial | (simp only [NamelessL, Nameless, and_self, and_true, true_and]; done) | (simp [NamelessL, Nameless, u32s_nameless, namelessL_ints]; done)) ?_
  refine of_eq (B := letI z2 := (D.v (Value.string s)); letI z3 := (D.v (Value.int IntKind.i64 (0 : Int))); letI z0 := (Option.some (Blk.mk (1000000007 : Nat) [z2, z3] Bool.true)); letI z4 := (D.v (Value.bool (nameS s))); letI z1 := (True ∧ (True ∧ ((D.v (Value.bool Bool.false)) = z4))); letI z5 := (D.ptr (0 : Nat) (0 : Nat)); letI z6 := ([] : List (Option Blk)); (True ∧ (True ∧ (True ∧ ((((0 : Nat) ≤ (ByteArray.size s)) ∧ (∀ (i : Nat), ((i < (0 : Nat)) → ((nmB i (bt s i)) = Bool.true)))) ∧ (((Bool.true = Bool.true) ∧ ((((z0 = z0) ∧ (NamelessL [z2, z3])) ∧ (z6 = z6)) ∧ ((True ∧ (z2 = z2)) ∧ ((True ∧ (z5 = z5)) ∧ True)))) ∧ ((Unit → (((nmAll s) = Bool.true) → (True ∧ (True ∧ (True ∧ (pcond (!((ByteArray.toList s) == ([] : List UInt8))) (True ∧ (True ∧ (True ∧ (True ∧ (True ∧ (True ∧ (True ∧ ((D.v (Value.bool (Decidable.decide ((((ByteArray.size s) : Nat) : Int) ≤ (12 : Int))))) = z4)))))))) (True ∧ (True ∧ z1)))))))) ∧ (Unit → (((nmAll s) = Bool.false) → z1))))))))) (by kernel_rfl) ?_
  simp only [true_and, and_true, and_self, IsInt_lit, IsBool_lit, IsStr_lit, IsSl_lit, cellN_lit, cellL_lit, Bool.not_eq_true', Bool.not_eq_false', Bool.not_true, Bool.not_false, Int.reduceLE, Int.reduceLT, Int.reduceNeg, Nat.le_refl, Int.le_refl, Nat.reduceLT, Nat.reduceLeDiff, Nat.reduceEqDiff, D.v.injEq, D.tup.injEq, D.agg.injEq, D.ro.injEq, List.cons.injEq, Value.int.injEq, Value.bool.injEq, pcond_true, pcond_false, NamelessL, Nameless, Nat.reduceMul, Nat.reduceAdd, Nat.zero_add, Int.toNat_natCast]
  rw [empty_dec]
  refine ⟨⟨Nat.zero_le _, fun i h => absurd h (Nat.not_lt_zero _)⟩, fun _ h => ?_, fun _ h => ?_⟩
  · unfold nameS
    rw [h]
    repeat' (refine pcond_intro (fun _ => ?_) (fun _ => ?_))
    all_goals (simp_all; try omega)
  · unfold nameS
    rw [h]; simp
def ent_name : Ent := fun ds => match ds with
  | [.v (.string s)] => some (.v (.bool (nameS s)), s.size ≤ 9223372036854775807)
  | _ => none
theorem ent_name_ok : EntOk Tryd.prog 32 ent_name := by
  intro ds d c h hc; unfold ent_name at h; split at h
  · obtain ⟨rfl, rfl⟩ := pair_inj h; exact name_pure _ hc
  · cases h
def lp_rnameLoop (s : ByteArray) : LoopO := loopRule2 (α := Nat) (β := Unit) (γ := Unit) [] (fun n => n ≤ s.size ∧ ∀ i, i < n → nmB i (bt s i) = true) (fun n => [(0, .v (.string s)), (3, .v (.int .i64 (n : Int)))]) (fun n => []) (0) (fun _ => nmAll s = true) (fun _ => (.exit 0, [(0, .v (.string s))], [])) (fun _ => nmAll s = false) (fun _ => (.ret, [(2, .v (.bool false))], []))
theorem rnameLoop_rule (s : ByteArray) (hpre : s.size ≤ 9223372036854775807) : LRuleP Tryd.prog Tryd.f16.ntmps (loopAt ((Tryd.f16.body).getD .skip) 4) (lp_rnameLoop s) := by
  refine lrule_of2 (α := Nat) (β := Unit) (γ := Unit) (call := noCalls) (lp := fun _ => none) (N := 10) T_ok mixed noCalls_ok (fun n => s.size - n) (by kernel_rfl) (LpAllP.none _) ?_
  intro x hJ
  refine of_eq (B := letI z18 := (Exit.exit (0 : Nat)); letI z4 := (Prod.mk (0 : Nat) (D.v (Value.string s))); letI z6 := ([] : List (Option Blk)); letI z0 := (Prod.mk z18 (Prod.mk [z4] z6)); letI z9 := (Prod.mk (2 : Nat) (D.v (Value.bool Bool.false))); letI z1 := (Prod.mk Exit.ret (Prod.mk [z9] z6)); letI z14 := ((x : Nat) : Int); letI z2 := (((UInt8.toNat (List.getD (Array.toList (ByteArray.data s)) (Int.toNat z14) (0 : UInt8))) : Nat) : Int); letI z3 := (([] : List Value) = ([] : List Value)); letI z5 := (Prod.mk (3 : Nat) (D.v (Value.int IntKind.i64 (IntKind.wrap IntKind.i64 (z14 + (1 : Int)))))); letI z7 := ByteArray.size s; letI z8 := (List (Option Nat)); letI z10 := (Exit.ret = z18); letI z11 := ((nmAll s) = Bool.false); letI z12 := ((nmAll s) = Bool.true); letI z13 := Exit.ret = Exit.ret; letI z15 := (z2 != (95 : Int)); letI z16 := (Decidable.decide (z2 < (48 : Int))); letI z17 := (Decidable.decide ((57 : Int) < z2)); letI z19 := (z14 == (0 : Int)); letI z20 := (!(Decidable.decide (z2 ≤ (90 : Int)))); letI z21 := (Decidable.decide ((65 : Int) ≤ z2)); (True ∧ (True ∧ (True ∧ (True ∧ (pcond (Decidable.decide (z14 < ((z7 : Nat) : Int))) (True ∧ (True ∧ ((((0 : Int) ≤ z14) ∧ (z14 < ((z7 : Nat) : Int))) ∧ (True ∧ (True ∧ (True ∧ (True ∧ (pcond (Decidable.decide ((97 : Int) ≤ z2)) (True ∧ (True ∧ (True ∧ (True ∧ (pcond (Decidable.decide (z2 ≤ (122 : Int))) (z3 ∧ (z3 ∧ (True ∧ (True ∧ (True ∧ (True ∧ (True ∧ (z3 ∧ (z3 ∧ (z3 ∧ (z3 ∧ (z3 ∧ (z3 ∧ (z3 ∧ (z3 ∧ (z3 ∧ (z3 ∧ (True ∧ (True ∧ (True ∧ (True ∧ (∃ (y : Nat), (∃ (kp : z8), (((z7 - y) < (z7 - x)) ∧ (((y ≤ z7) ∧ (∀ (i : Nat), ((i < y) → ((nmB i (bt s i)) = Bool.true)))) ∧ (viewAll kp [z4, z5] z6 [z4, (Prod.mk (3 : Nat) (D.v (Value.int IntKind.i64 ((y : Nat) : Int))))] z6)))))))))))))))))))))))))) (True ∧ (True ∧ (True ∧ (pcond z21 (True ∧ (True ∧ (True ∧ (True ∧ (True ∧ (True ∧ (True ∧ (True ∧ (pcond z20 (True ∧ (True ∧ (True ∧ (pcond z19 (z3 ∧ (z3 ∧ (z3 ∧ (z3 ∧ (True ∧ (True ∧ (True ∧ ((∃ (r : Unit), (∃ (kp : z8), (z12 ∧ (z10 ∧ (viewAll kp [z4] z6 (Prod.fst (Prod.snd ((fun (x_1 : Unit) => z0) r))) (Prod.snd (Prod.snd ((fun (x_1 : Unit) => z0) r)))))))) ∨ (∃ (r : Unit), (∃ (kp : z8), (z11 ∧ (z13 ∧ (viewAll kp [z9] z6 (Prod.fst (Prod.snd ((fun (x_1 : Unit) => z1) r))) (Prod.snd (Prod.snd ((fun (x_1 : Unit) => z1) r)))))))))))))))) (True ∧ (True ∧ (True ∧ (pcond z16 (True ∧ (True ∧ (True ∧ (True ∧ (True ∧ (True ∧ (True ∧ (pcond z15 (True ∧ ((∃ (r : Unit), (∃ (kp : z8), (z12 ∧ (z10 ∧ (viewAll kp [z4] z6 (Prod.fst (Prod.snd ((fun (x_1 : Unit) => z0) r))) (Prod.snd (Prod.snd ((fun (x_1 : Unit) => z0) r)))))))) ∨ (∃ (r : Unit), (∃ (kp : z8), (z11 ∧ (z13 ∧ (viewAll kp [z9] z6 (Prod.fst (Prod.snd ((fun (x_1 : Unit) => z1) r))) (Prod.snd (Prod.snd ((fun (x_1 : Unit) => z1) r)))))))))) (True ∧ (True ∧ (True ∧ (∃ (y : Nat), (∃ (kp : z8), (((z7 - y) < (z7 - x)) ∧ (((y ≤ z7) ∧ (∀ (i : Nat), ((i < y) → ((nmB i (bt s i)) = Bool.true)))) ∧ (viewAll kp [z4, z5] z6 [z4, (Prod.mk (3 : Nat) (D.v (Value.int IntKind.i64 ((y : Nat) : Int))))] z6)))))))))))))))) (True ∧ (True ∧ (True ∧ (True ∧ (pcond z17 (True ∧ (True ∧ (True ∧ (True ∧ (True ∧ (pcond z15 (True ∧ ((∃ (r : Unit), (∃ (kp : z8), (z12 ∧ (z10 ∧ (viewAll kp [z4] z6 (Prod.fst (Prod.snd ((fun (x_1 : Unit) => z0) r))) (Prod.snd (Prod.snd ((fun (x_1 : Unit) => z0) r)))))))) ∨ (∃ (r : Unit), (∃ (kp : z8), (z11 ∧ (z13 ∧ (viewAll kp [z9] z6 (Prod.fst (Prod.snd ((fun (x_1 : Unit) => z1) r))) (Prod.snd (Prod.snd ((fun (x_1 : Unit) => z1) r)))))))))) (True ∧ (True ∧ (True ∧ (∃ (y : Nat), (∃ (kp : z8), (((z7 - y) < (z7 - x)) ∧ (((y ≤ z7) ∧ (∀ (i : Nat), ((i < y) → ((nmB i (bt s i)) = Bool.true)))) ∧ (viewAll kp [z4, z5] z6 [z4, (Prod.mk (3 : Nat) (D.v (Value.int IntKind.i64 ((y : Nat) : Int))))] z6)))))))))))))) (True ∧ (True ∧ (True ∧ (True ∧ (True ∧ (True ∧ (∃ (y : Nat), (∃ (kp : z8), (((z7 - y) < (z7 - x)) ∧ (((y ≤ z7) ∧ (∀ (i : Nat), ((i < y) → ((nmB i (bt s i)) = Bool.true)))) ∧ (viewAll kp [z4, z5] z6 [z4, (Prod.mk (3 : Nat) (D.v (Value.int IntKind.i64 ((y : Nat) : Int))))] z6)))))))))))))))))))))))) (z3 ∧ (z3 ∧ (z3 ∧ (z3 ∧ (z3 ∧ (z3 ∧ (z3 ∧ (z3 ∧ (z3 ∧ (z3 ∧ (True ∧ (True ∧ (True ∧ (True ∧ (∃ (y : Nat), (∃ (kp : z8), (((z7 - y) < (z7 - x)) ∧ (((y ≤ z7) ∧ (∀ (i : Nat), ((i < y) → ((nmB i (bt s i)) = Bool.true)))) ∧ (viewAll kp [z4, z5] z6 [z4, (Prod.mk (3 : Nat) (D.v (Value.int IntKind.i64 ((y : Nat) : Int))))] z6)))))))))))))))))))))))))))) (True ∧ (True ∧ (True ∧ (True ∧ (True ∧ (True ∧ (True ∧ (True ∧ (True ∧ (pcond z19 (z3 ∧ (z3 ∧ (z3 ∧ (z3 ∧ (True ∧ (True ∧ (True ∧ ((∃ (r : Unit), (∃ (kp : z8), (z12 ∧ (z10 ∧ (viewAll kp [z4] z6 (Prod.fst (Prod.snd ((fun (x_1 : Unit) => z0) r))) (Prod.snd (Prod.snd ((fun (x_1 : Unit) => z0) r)))))))) ∨ (∃ (r : Unit), (∃ (kp : z8), (z11 ∧ (z13 ∧ (viewAll kp [z9] z6 (Prod.fst (Prod.snd ((fun (x_1 : Unit) => z1) r))) (Prod.snd (Prod.snd ((fun (x_1 : Unit) => z1) r)))))))))))))))) (True ∧ (True ∧ (True ∧ (pcond z16 (True ∧ (True ∧ (True ∧ (True ∧ (True ∧ (True ∧ (True ∧ (pcond z15 (True ∧ ((∃ (r : Unit), (∃ (kp : z8), (z12 ∧ (z10 ∧ (viewAll kp [z4] z6 (Prod.fst (Prod.snd ((fun (x_1 : Unit) => z0) r))) (Prod.snd (Prod.snd ((fun (x_1 : Unit) => z0) r)))))))) ∨ (∃ (r : Unit), (∃ (kp : z8), (z11 ∧ (z13 ∧ (viewAll kp [z9] z6 (Prod.fst (Prod.snd ((fun (x_1 : Unit) => z1) r))) (Prod.snd (Prod.snd ((fun (x_1 : Unit) => z1) r)))))))))) (True ∧ (True ∧ (True ∧ (∃ (y : Nat), (∃ (kp : z8), (((z7 - y) < (z7 - x)) ∧ (((y ≤ z7) ∧ (∀ (i : Nat), ((i < y) → ((nmB i (bt s i)) = Bool.true)))) ∧ (viewAll kp [z4, z5] z6 [z4, (Prod.mk (3 : Nat) (D.v (Value.int IntKind.i64 ((y : Nat) : Int))))] z6)))))))))))))))) (True ∧ (True ∧ (True ∧ (True ∧ (pcond z17 (True ∧ (True ∧ (True ∧ (True ∧ (True ∧ (pcond z15 (True ∧ ((∃ (r : Unit), (∃ (kp : z8), (z12 ∧ (z10 ∧ (viewAll kp [z4] z6 (Prod.fst (Prod.snd ((fun (x_1 : Unit) => z0) r))) (Prod.snd (Prod.snd ((fun (x_1 : Unit) => z0) r)))))))) ∨ (∃ (r : Unit), (∃ (kp : z8), (z11 ∧ (z13 ∧ (viewAll kp [z9] z6 (Prod.fst (Prod.snd ((fun (x_1 : Unit) => z1) r))) (Prod.snd (Prod.snd ((fun (x_1 : Unit) => z1) r)))))))))) (True ∧ (True ∧ (True ∧ (∃ (y : Nat), (∃ (kp : z8), (((z7 - y) < (z7 - x)) ∧ (((y ≤ z7) ∧ (∀ (i : Nat), ((i < y) → ((nmB i (bt s i)) = Bool.true)))) ∧ (viewAll kp [z4, z5] z6 [z4, (Prod.mk (3 : Nat) (D.v (Value.int IntKind.i64 ((y : Nat) : Int))))] z6)))))))))))))) (True ∧ (True ∧ (True ∧ (True ∧ (True ∧ (True ∧ (∃ (y : Nat), (∃ (kp : z8), (((z7 - y) < (z7 - x)) ∧ (((y ≤ z7) ∧ (∀ (i : Nat), ((i < y) → ((nmB i (bt s i)) = Bool.true)))) ∧ (viewAll kp [z4, z5] z6 [z4, (Prod.mk (3 : Nat) (D.v (Value.int IntKind.i64 ((y : Nat) : Int))))] z6))))))))))))))))))))))))))))))))))))))) (True ∧ (True ∧ (True ∧ (True ∧ (True ∧ (pcond z21 (True ∧ (True ∧ (True ∧ (True ∧ (True ∧ (True ∧ (True ∧ (True ∧ (pcond z20 (True ∧ (True ∧ (True ∧ (pcond z19 (z3 ∧ (z3 ∧ (z3 ∧ (z3 ∧ (True ∧ (True ∧ (True ∧ ((∃ (r : Unit), (∃ (kp : z8), (z12 ∧ (z10 ∧ (viewAll kp [z4] z6 (Prod.fst (Prod.snd ((fun (x_1 : Unit) => z0) r))) (Prod.snd (Prod.snd ((fun (x_1 : Unit) => z0) r)))))))) ∨ (∃ (r : Unit), (∃ (kp : z8), (z11 ∧ (z13 ∧ (viewAll kp [z9] z6 (Prod.fst (Prod.snd ((fun (x_1 : Unit) => z1) r))) (Prod.snd (Prod.snd ((fun (x_1 : Unit) => z1) r)))))))))))))))) (True ∧ (True ∧ (True ∧ (pcond z16 (True ∧ (True ∧ (True ∧ (True ∧ (True ∧ (True ∧ (True ∧ (pcond z15 (True ∧ ((∃ (r : Unit), (∃ (kp : z8), (z12 ∧ (z10 ∧ (viewAll kp [z4] z6 (Prod.fst (Prod.snd ((fun (x_1 : Unit) => z0) r))) (Prod.snd (Prod.snd ((fun (x_1 : Unit) => z0) r)))))))) ∨ (∃ (r : Unit), (∃ (kp : z8), (z11 ∧ (z13 ∧ (viewAll kp [z9] z6 (Prod.fst (Prod.snd ((fun (x_1 : Unit) => z1) r))) (Prod.snd (Prod.snd ((fun (x_1 : Unit) => z1) r)))))))))) (True ∧ (True ∧ (True ∧ (∃ (y : Nat), (∃ (kp : z8), (((z7 - y) < (z7 - x)) ∧ (((y ≤ z7) ∧ (∀ (i : Nat), ((i < y) → ((nmB i (bt s i)) = Bool.true)))) ∧ (viewAll kp [z4, z5] z6 [z4, (Prod.mk (3 : Nat) (D.v (Value.int IntKind.i64 ((y : Nat) : Int))))] z6)))))))))))))))) (True ∧ (True ∧ (True ∧ (True ∧ (pcond z17 (True ∧ (True ∧ (True ∧ (True ∧ (True ∧ (pcond z15 (True ∧ ((∃ (r : Unit), (∃ (kp : z8), (z12 ∧ (z10 ∧ (viewAll kp [z4] z6 (Prod.fst (Prod.snd ((fun (x_1 : Unit) => z0) r))) (Prod.snd (Prod.snd ((fun (x_1 : Unit) => z0) r)))))))) ∨ (∃ (r : Unit), (∃ (kp : z8), (z11 ∧ (z13 ∧ (viewAll kp [z9] z6 (Prod.fst (Prod.snd ((fun (x_1 : Unit) => z1) r))) (Prod.snd (Prod.snd ((fun (x_1 : Unit) => z1) r)))))))))) (True ∧ (True ∧ (True ∧ (∃ (y : Nat), (∃ (kp : z8), (((z7 - y) < (z7 - x)) ∧ (((y ≤ z7) ∧ (∀ (i : Nat), ((i < y) → ((nmB i (bt s i)) = Bool.true)))) ∧ (viewAll kp [z4, z5] z6 [z4, (Prod.mk (3 : Nat) (D.v (Value.int IntKind.i64 ((y : Nat) : Int))))] z6)))))))))))))) (True ∧ (True ∧ (True ∧ (True ∧ (True ∧ (True ∧ (∃ (y : Nat), (∃ (kp : z8), (((z7 - y) < (z7 - x)) ∧ (((y ≤ z7) ∧ (∀ (i : Nat), ((i < y) → ((nmB i (bt s i)) = Bool.true)))) ∧ (viewAll kp [z4, z5] z6 [z4, (Prod.mk (3 : Nat) (D.v (Value.int IntKind.i64 ((y : Nat) : Int))))] z6)))))))))))))))))))))))) (z3 ∧ (z3 ∧ (z3 ∧ (z3 ∧ (z3 ∧ (z3 ∧ (z3 ∧ (z3 ∧ (z3 ∧ (z3 ∧ (True ∧ (True ∧ (True ∧ (True ∧ (∃ (y : Nat), (∃ (kp : z8), (((z7 - y) < (z7 - x)) ∧ (((y ≤ z7) ∧ (∀ (i : Nat), ((i < y) → ((nmB i (bt s i)) = Bool.true)))) ∧ (viewAll kp [z4, z5] z6 [z4, (Prod.mk (3 : Nat) (D.v (Value.int IntKind.i64 ((y : Nat) : Int))))] z6)))))))))))))))))))))))))))) (True ∧ (True ∧ (True ∧ (True ∧ (True ∧ (True ∧ (True ∧ (True ∧ (True ∧ (pcond z19 (z3 ∧ (z3 ∧ (z3 ∧ (z3 ∧ (True ∧ (True ∧ (True ∧ ((∃ (r : Unit), (∃ (kp : z8), (z12 ∧ (z10 ∧ (viewAll kp [z4] z6 (Prod.fst (Prod.snd ((fun (x_1 : Unit) => z0) r))) (Prod.snd (Prod.snd ((fun (x_1 : Unit) => z0) r)))))))) ∨ (∃ (r : Unit), (∃ (kp : z8), (z11 ∧ (z13 ∧ (viewAll kp [z9] z6 (Prod.fst (Prod.snd ((fun (x_1 : Unit) => z1) r))) (Prod.snd (Prod.snd ((fun (x_1 : Unit) => z1) r)))))))))))))))) (True ∧ (True ∧ (True ∧ (pcond z16 (True ∧ (True ∧ (True ∧ (True ∧ (True ∧ (True ∧ (True ∧ (pcond z15 (True ∧ ((∃ (r : Unit), (∃ (kp : z8), (z12 ∧ (z10 ∧ (viewAll kp [z4] z6 (Prod.fst (Prod.snd ((fun (x_1 : Unit) => z0) r))) (Prod.snd (Prod.snd ((fun (x_1 : Unit) => z0) r)))))))) ∨ (∃ (r : Unit), (∃ (kp : z8), (z11 ∧ (z13 ∧ (viewAll kp [z9] z6 (Prod.fst (Prod.snd ((fun (x_1 : Unit) => z1) r))) (Prod.snd (Prod.snd ((fun (x_1 : Unit) => z1) r)))))))))) (True ∧ (True ∧ (True ∧ (∃ (y : Nat), (∃ (kp : z8), (((z7 - y) < (z7 - x)) ∧ (((y ≤ z7) ∧ (∀ (i : Nat), ((i < y) → ((nmB i (bt s i)) = Bool.true)))) ∧ (viewAll kp [z4, z5] z6 [z4, (Prod.mk (3 : Nat) (D.v (Value.int IntKind.i64 ((y : Nat) : Int))))] z6)))))))))))))))) (True ∧ (True ∧ (True ∧ (True ∧ (pcond z17 (True ∧ (True ∧ (True ∧ (True ∧ (True ∧ (pcond z15 (True ∧ ((∃ (r : Unit), (∃ (kp : z8), (z12 ∧ (z10 ∧ (viewAll kp [z4] z6 (Prod.fst (Prod.snd ((fun (x_1 : Unit) => z0) r))) (Prod.snd (Prod.snd ((fun (x_1 : Unit) => z0) r)))))))) ∨ (∃ (r : Unit), (∃ (kp : z8), (z11 ∧ (z13 ∧ (viewAll kp [z9] z6 (Prod.fst (Prod.snd ((fun (x_1 : Unit) => z1) r))) (Prod.snd (Prod.snd ((fun (x_1 : Unit) => z1) r)))))))))) (True ∧ (True ∧ (True ∧ (∃ (y : Nat), (∃ (kp : z8), (((z7 - y) < (z7 - x)) ∧ (((y ≤ z7) ∧ (∀ (i : Nat), ((i < y) → ((nmB i (bt s i)) = Bool.true)))) ∧ (viewAll kp [z4, z5] z6 [z4, (Prod.mk (3 : Nat) (D.v (Value.int IntKind.i64 ((y : Nat) : Int))))] z6)))))))))))))) (True ∧ (True ∧ (True ∧ (True ∧ (True ∧ (True ∧ (∃ (y : Nat), (∃ (kp : z8), (((z7 - y) < (z7 - x)) ∧ (((y ≤ z7) ∧ (∀ (i : Nat), ((i < y) → ((nmB i (bt s i)) = Bool.true)))) ∧ (viewAll kp [z4, z5] z6 [z4, (Prod.mk (3 : Nat) (D.v (Value.int IntKind.i64 ((y : Nat) : Int))))] z6)))))))))))))))))))))))))))))))))))))))))))) ((∃ (r : Unit), (∃ (kp : z8), (z12 ∧ ((z18 = z18) ∧ (viewAll kp [z4] z6 (Prod.fst (Prod.snd ((fun (x_1 : Unit) => z0) r))) (Prod.snd (Prod.snd ((fun (x_1 : Unit) => z0) r)))))))) ∨ (∃ (r : Unit), (∃ (kp : z8), (z11 ∧ ((z18 = Exit.ret) ∧ (viewAll kp ([] : List (Prod Nat D)) z6 (Prod.fst (Prod.snd ((fun (x_1 : Unit) => z1) r))) (Prod.snd (Prod.snd ((fun (x_1 : Unit) => z1) r))))))))))))))) (by kernel_rfl) ?_
  simp only [true_and, and_true, and_self, IsInt_lit, IsBool_lit, IsStr_lit, IsSl_lit, cellN_lit, cellL_lit, Bool.not_eq_true', Bool.not_eq_false', Bool.not_true, Bool.not_false, Int.reduceLE, Int.reduceLT, Int.reduceNeg, Nat.le_refl, Int.le_refl, Nat.reduceLT, Nat.reduceLeDiff, Nat.reduceEqDiff, D.v.injEq, D.tup.injEq, D.agg.injEq, D.ro.injEq, List.cons.injEq, Value.int.injEq, Value.bool.injEq, pcond_true, pcond_false, NamelessL, Nameless, Nat.reduceMul, Nat.reduceAdd, Nat.zero_add, Int.toNat_natCast] at *
  obtain ⟨hx, hall⟩ := hJ
  have hx0 : (((x : Int) == 0) = true) ↔ x = 0 := by rw [beq_iff_eq]; omega
  refine pcond_intro (fun h => ?_) (fun h => .inl ⟨(), [], ?_, ⟨rfl, rfl, ⟨trivial, rfl⟩, trivial⟩⟩)
  · simp only [decide_eq_true_eq] at h
    have hi : IntKind.i64.wrap ((x : Int) + 1) = ((x + 1 : Nat) : Int) := by rw [wrap_i64_of (by omega) (by omega)]; omega
    refine ⟨by omega, ?_⟩
    have e : (s.data.toList.getD x 0).toNat = bt s x := rfl
    simp only [e, hi]
    cases hN : nmB x (bt s x) with
    | true =>
      have q := (nm_int _ _).1 hN
      have fin : ∀ i, i < x + 1 → nmB i (bt s i) = true := fun i hi => by
        rcases Nat.lt_or_ge i x with h2 | h2
        · exact hall i h2
        · rw [show i = x by omega]; exact hN
      clear hN
      repeat' (refine pcond_intro (fun _ => ?_) (fun _ => ?_))
      all_goals first
        | exact ⟨x + 1, [], by omega, ⟨by omega, fin⟩, ⟨rfl, rfl, ⟨trivial, rfl⟩, ⟨trivial, rfl⟩, trivial⟩⟩
        | (exfalso; simp only [decide_eq_true_eq, decide_eq_false_iff_not, bne_iff_ne, bne_eq_false_iff_eq, beq_eq_false_iff_ne, beq_iff_eq, ne_eq, Bool.not_eq_true', Bool.not_eq_false'] at *; generalize bt s x = c at *; omega)
    | false =>
      have q : ¬ _ := fun h => absurd ((nm_int _ _).2 h) (by rw [hN]; simp)
      have no := nmAll_not (by omega) hN
      clear hN hall
      repeat' (refine pcond_intro (fun _ => ?_) (fun _ => ?_))
      all_goals first
        | exact .inr ⟨(), [], no, ⟨rfl, rfl, ⟨trivial, rfl⟩, trivial⟩⟩
        | (exfalso; simp only [decide_eq_true_eq, decide_eq_false_iff_not, bne_iff_ne, bne_eq_false_iff_eq, beq_eq_false_iff_ne, beq_iff_eq, ne_eq, Bool.not_eq_true', Bool.not_eq_false'] at *; generalize bt s x = c at *; omega)
  · simp only [decide_eq_false_iff_not] at h
    exact nmAll_of fun i hi => hall i (by omega)
theorem rname_pure (s : ByteArray) (hpre : s.size ≤ 9223372036854775807) : PureJ Tryd.prog 16 [.v (.string s)] (.v (.bool (nameS s))) := by
  refine pureJ_of_vcp (call := noCalls) (lp := fun reg__ => bif Nat.beq reg__ 4 then some (lp_rnameLoop s) else none) (N := 10) T_ok mixed noCalls_ok Tryd.func16 rfl (by decide) (by kernel_rfl) (by kernel_rfl) (of_eq (B := LRuleP Tryd.prog Tryd.f16.ntmps (loopAt ((Tryd.f16.body).getD .skip) 4) (lp_rnameLoop s) ∧ True) (by kernel_rfl) ⟨rnameLoop_rule s hpre, trivial⟩) (by first | trivial | (simp only [NamelessL, Nameless, and_self, and_true, true_and]; done) | (simp [NamelessL, Nameless, u32s_nameless, namelessL_ints]; done)) (by first | trivial | (simp only [NamelessL, Nameless, and_self, and_true, true_and]; done) | (simp [NamelessL, Nameless, u32s_nameless, namelessL_ints]; done)) ?_
  refine of_eq (B := letI z3 := (D.v (Value.bool (nameS s))); letI z0 := (True ∧ (True ∧ ((D.v (Value.bool Bool.false)) = z3))); letI z1 := (D.v (Value.int IntKind.i64 (0 : Int))); letI z2 := (((ByteArray.size s) : Nat) : Int); letI z4 := ([] : List (Option Blk)); letI z5 := (D.v (Value.string s)); (True ∧ (True ∧ (True ∧ (True ∧ (True ∧ (pcond (Decidable.decide (z2 < (1 : Int))) (True ∧ (True ∧ z0)) (True ∧ (True ∧ (True ∧ (True ∧ (pcond (Decidable.decide ((12 : Int) < z2)) (True ∧ z0) (True ∧ ((((0 : Nat) ≤ (ByteArray.size s)) ∧ (∀ (i : Nat), ((i < (0 : Nat)) → ((nmB i (bt s i)) = Bool.true)))) ∧ (((Bool.true = Bool.true) ∧ ((z4 = z4) ∧ ((True ∧ (z5 = z5)) ∧ ((True ∧ (z1 = z1)) ∧ True)))) ∧ ((Unit → (((nmAll s) = Bool.true) → (True ∧ (True ∧ (True ∧ ((D.v (Value.bool Bool.true)) = z3)))))) ∧ (Unit → (((nmAll s) = Bool.false) → z0)))))))))))))))))) (by kernel_rfl) ?_
  simp only [true_and, and_true, and_self, IsInt_lit, IsBool_lit, IsStr_lit, IsSl_lit, cellN_lit, cellL_lit, Bool.not_eq_true', Bool.not_eq_false', Bool.not_true, Bool.not_false, Int.reduceLE, Int.reduceLT, Int.reduceNeg, Nat.le_refl, Int.le_refl, Nat.reduceLT, Nat.reduceLeDiff, Nat.reduceEqDiff, D.v.injEq, D.tup.injEq, D.agg.injEq, D.ro.injEq, List.cons.injEq, Value.int.injEq, Value.bool.injEq, pcond_true, pcond_false, NamelessL, Nameless, Nat.reduceMul, Nat.reduceAdd, Nat.zero_add, Int.toNat_natCast]
  unfold nameS
  repeat' (refine pcond_intro (fun _ => ?_) (fun _ => ?_))
  · simp only [decide_eq_true_eq] at *
    have : s.size = 0 := by omega
    simp [this]
  · simp only [decide_eq_true_eq, decide_eq_false_iff_not] at *
    have : ¬ s.size ≤ 12 := by omega
    simp [this]
  · simp only [decide_eq_true_eq, decide_eq_false_iff_not] at *
    have h1 : s.size ≠ 0 := by omega
    have h2 : s.size ≤ 12 := by omega
    refine ⟨⟨Nat.zero_le _, fun i h => absurd h (Nat.not_lt_zero _)⟩, fun _ h => ?_, fun _ h => ?_⟩
    · rw [h]; simp [h1, h2]
    · rw [h]; simp
def ent_rname : Ent := fun ds => match ds with
  | [.v (.string s)] => some (.v (.bool (nameS s)), s.size ≤ 9223372036854775807)
  | _ => none
theorem ent_rname_ok : EntOk Tryd.prog 16 ent_rname := by
  intro ds d c h hc; unfold ent_rname at h; split at h
  · obtain ⟨rfl, rfl⟩ := pair_inj h; exact rname_pure _ hc
  · cases h
end Go.Proofs.YtfleadelfklenaaDoor
end
section
namespace Go.Proofs.YtfleadelfklenaaDoor
open Go.VD
set_option linter.unusedVariables false
set_option linter.unusedSimpArgs false
set_option maxRecDepth 100000
def allI {α : Type} [Inhabited α] (p : α → α → Bool) (a b : List α) : Bool := (List.range a.length).all fun i => p (a.getD i default) (b.getD i default)
def lEq {α : Type} [Inhabited α] (p : α → α → Bool) (a b : List α) : Bool := decide (a.length = b.length) && allI p a b
def sE (a b : ByteArray) : Bool := a.toList == b.toList
theorem beq_sE (a b : ByteArray) : (a == b) = sE a b := by
  unfold sE
  rw [Bool.eq_iff_iff, bytes_eq_iff, beq_iff_eq, ByteArray.toList_eq, ByteArray.toList_eq]
  cases a; cases b
  simp [Array.toList_inj]
def impE (a b : Imp) : Bool := (a.r == b.r) && (a.x == b.x)
def linE (a b : Lin) : Bool := sE a.n b.n && (impE a.z1 b.z1 && impE a.z0 b.z0)
def srcE (a b : Src) : Bool := sE a.n b.n && ((a.emf == b.emf) && (impE a.z1 b.z1 && impE a.z0 b.z0))
def lnkE (a b : Lnk) : Bool := (a.bus == b.bus) && (a.pos == b.pos)
def bayE (a b : Bay) : Bool := sE a.n b.n && ((a.kind == b.kind) && ((a.of == b.of) && ((a.end_ == b.end_) && (impE a.z b.z && (lEq lnkE a.ls b.ls && ((a.cl == b.cl) && ((a.ct == b.ct) && ((a.vt == b.vt) && ((a.sat == b.sat) && (a.tr == b.tr))))))))))
theorem wrap_succ {x n : Nat} (h : x < n) (hn : n ≤ 9223372036854775807) : IntKind.i64.wrap ((x : Int) + 1) = ((x + 1 : Nat) : Int) := by rw [wrap_i64_of (by omega) (by omega)]; omega
def BusOk (n : Nat) (xs : List D) : Prop := (n = (unBus xs).length ∧ xs = busesD (unBus xs)) ∧ (unBus xs).length ≤ maxLen
theorem BusOk_lit (l : List ByteArray) : BusOk l.length (busesD l) = (l.length ≤ maxLen) := by
  unfold BusOk; rw [unBus_D]; simp
def LinOk (n : Nat) (xs : List D) : Prop := (n = (unLin xs).length ∧ xs = linesD (unLin xs)) ∧ (unLin xs).length ≤ maxLen
theorem LinOk_lit (l : List Lin) : LinOk l.length (linesD l) = (l.length ≤ maxLen) := by
  unfold LinOk; rw [unLin_D]; simp
def SrcOk (n : Nat) (xs : List D) : Prop := (n = (unSrc xs).length ∧ xs = srcsD (unSrc xs)) ∧ (unSrc xs).length ≤ maxLen
theorem SrcOk_lit (l : List Src) : SrcOk l.length (srcsD l) = (l.length ≤ maxLen) := by
  unfold SrcOk; rw [unSrc_D]; simp
def LnkOk (n : Nat) (xs : List D) : Prop := (n = (unLnk xs).length ∧ xs = lnksD (unLnk xs)) ∧ (unLnk xs).length ≤ maxLen
theorem LnkOk_lit (l : List Lnk) : LnkOk l.length (lnksD l) = (l.length ≤ maxLen) := by
  unfold LnkOk; rw [unLnk_D]; simp
def BayOk (n : Nat) (xs : List D) : Prop := (n = (unBay xs).length ∧ xs = baysD (unBay xs)) ∧ (unBay xs).length ≤ maxLen
theorem BayOk_lit (l : List Bay) : BayOk l.length (baysD l) = (l.length ≤ maxLen) := by
  unfold BayOk; rw [unBay_D]; simp
def d_bayL (b : Bay) : List D := [d_s b.n, d_i b.kind, d_i b.of, d_i b.end_, d_i b.z.r, d_i b.z.x, .ro b.ls.length (lnksD b.ls), .v (.bool b.cl), d_i b.ct, d_i b.vt, d_i b.sat, d_i b.tr]
def d_stnL (s : Stn) : List D := [d_s s.n, .ro s.bu.length (busesD s.bu), .ro s.li.length (linesD s.li), .ro s.so.length (srcsD s.so), .ro s.ba.length (baysD s.ba)]
end Go.Proofs.YtfleadelfklenaaDoor
end
