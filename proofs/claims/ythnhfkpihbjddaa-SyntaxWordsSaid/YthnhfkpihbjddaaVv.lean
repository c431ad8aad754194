/- A closed run, computed on data: soundness. -/
import Derived.Test.YthnhfkpihbjddaaVu
namespace Go.VD
set_option linter.unusedVariables false
set_option linter.unusedSimpArgs false

def srcB (H : Heap) (es : Nat) : Option D → Bool
  | some (.ro m ys) => decide (m * es ≤ ys.length)
  | some (.sl b off m _) => match blkAt H b with
    | some blk => decide (off + m * es ≤ blk.cs.length)
    | none => false
  | _ => true
theorem srcB_ok {H : Heap} {es : Nat} {x : Option D} {m : Nat} {news : List D} {c : Prop} (h : srcD H es x = some (m, news, c)) (hb : srcB H es x = true) : c := by
  unfold srcD at h
  split at h
  · injection h with h; injection h with _ h; injection h with _ h; subst h; simpa [srcB] using hb
  · split at h
    · rename_i blk hblk
      injection h with h; injection h with _ h; injection h with _ h; subst h; simpa [srcB, hblk] using hb
    · cases h
  · injection h with h; injection h with _ h; injection h with _ h; subst h; trivial
  · cases h

def loadHB (H : Heap) (t : Option TI) : Option D → Bool
  | some (.ptr b off) => match blkAt H b, t with
    | some blk, some ti => partB ti blk.cs off
    | _, _ => false
  | _ => false
def storeHB (H : Heap) (t : Option TI) (ys : Option (List D)) : Option D → Bool
  | some (.ptr b off) => match blkAt H b, t, ys with
    | some blk, some ti, some ys => decide (ys.length = ti.size) && decide (off + ti.size ≤ blk.cs.length)
    | _, _, _ => false
  | _ => false
def makeHB (T : Tbl) (t : Option TI) : Option D → Option D → Bool
  | some (.v (.int _ n)), some (.v (.int _ m)) => match t with
    | some ⟨.slice e, _, _, _⟩ => match T e with
      | some ti => decide (0 ≤ n) && (decide (n ≤ m) && (decide ((ti.bytes : Int) * m ≤ 281474976710656) && decide (m ≤ 9223372036854775807)))
      | none => false
    | _ => false
  | _, _ => false
def buildSliceHB (T : Tbl) (t : Option TI) (len : Nat) : Bool :=
  match t with
  | some ⟨.slice e, _, _, _⟩ => match T e with
    | some ti => decide (len * ti.size ≤ 16777216) && decide (len ≤ maxLen)
    | none => false
  | _ => false
def appendHB (T : Tbl) (H : Heap) (t t' : Option TypeId) (ti : Option TI) (src : Option D) : Option D → Bool
  | some (.sl b 0 n (.toEnd es)) => match t, t', ti with
    | some t, some t', some ⟨.slice e, _, _, _⟩ => match T e, blkAt H b with
      | some te, some blk => match srcD H te.size src with
        | some (m, _, _) => srcB H te.size src && (t == t' && (es == te.size && (blk.ty == e && (decide (n * te.size ≤ blk.cs.length) && (decide (0 < te.size) && (decide (n + m ≤ maxLen) && decide ((n + m) * te.bytes ≤ 140737488355328)))))))
        | none => false
      | _, _ => false
    | _, _, _ => false
  | some (.v (.slice none 0 0)) => match t, t', ti with
    | some t, some t', some ⟨.slice e, _, _, _⟩ => match T e with
      | some te => match srcD H te.size src with
        | some (m, _, _) => srcB H te.size src && (t == t' && (decide (0 < te.size) && (decide (m ≤ maxLen) && decide (m * te.bytes ≤ 140737488355328))))
        | none => false
      | none => false
    | _, _, _ => false
  | _ => false
theorem appendHB_ok {T : Tbl} {H : Heap} {t t' : Option TypeId} {ti : Option TI} {src s : Option D} {out : HOut} (h : appendH T H t t' ti src s = some out) (hb : appendHB T H t t' ti src s = true) : out.c := by
  unfold appendH at h
  split at h
  · split at h
    · split at h
      · rename_i h4 h5
        split at h
        · rename_i h6
          injection h with h; subst h
          simp only [appendHB, h4, h5, h6, Bool.and_eq_true, decide_eq_true_eq, beq_iff_eq] at hb
          exact ⟨srcB_ok h6 hb.1, hb.2⟩
        · cases h
      · cases h
    · cases h
  · split at h
    · split at h
      · rename_i h4
        split at h
        · rename_i h6
          injection h with h; subst h
          simp only [appendHB, h4, h6, Bool.and_eq_true, decide_eq_true_eq, beq_iff_eq] at hb
          exact ⟨srcB_ok h6 hb.1, hb.2⟩
        · cases h
      · cases h
    · cases h
  · cases h
def opHB (T : Tbl) (env : Env) (H : Heap) : Op → Bool
  | .convert s d x => match srcD H 1 (opnd env x) with
    | some (_, news, _) => srcB H 1 (opnd env x) && news.all (isIntB .u8)
    | none => false
  | .load t x => loadHB H (T t) (opnd env x)
  | .store t x y => storeHB H (T t) ((opnd env y).bind cellsD) (opnd env x)
  | .makeSlice t l c => makeHB T (T t) (opnd env l) (opnd env c)
  | .buildSlice t len parts => buildSliceHB T (T t) len
  | .call { callee := .builtin .append, args, argTypes } => match args.toList with
    | [s, x] => appendHB T H argTypes.toList[0]? argTypes.toList[1]? (argTypes.toList[0]?.bind T) (opnd env x) (opnd env s)
    | _ => false
  | _ => true
theorem opHB_ok {T : Tbl} {env : Env} {H : Heap} {op : Op} {out : HOut} (h : opH T env H op = some out) (hb : opHB T env H op = true) : out.c := by
  cases op
  case convert s d x =>
    simp only [opH, bytesH] at h
    split at h
    · split at h
      · split at h
        · rename_i hsrc
          injection h with h; subst h
          simp only [opHB, hsrc, Bool.and_eq_true, List.all_eq_true] at hb
          exact ⟨srcB_ok hsrc hb.1, fun d hd => isIntB_ok (hb.2 d hd)⟩
        · cases h
      · cases h
    · cases h
  case range t x =>
    simp only [opH, rangeH] at h
    split at h
    · split at h
      · injection h with h; subst h; trivial
      · cases h
    · cases h
  case next it isString =>
    cases isString with
    | false => simp [opH] at h
    | true =>
      simp only [opH, nextH] at h
      split at h
      · split at h
        · injection h with h; subst h; trivial
        · cases h
      · cases h
  case box elem x =>
    simp only [opH, boxH] at h; split at h
    · cases hbe : Nat.beq elem itTy with
      | true => rw [hbe] at h; cases h
      | false => rw [hbe] at h; injection h with h; subst h; trivial
    · cases h
  case alloc elem => simp only [opH] at h; split at h <;> first | (injection h with h; subst h; trivial) | cases h
  case load t x =>
    simp only [opH, loadH] at h; split at h
    · rename_i hx
      split at h
      · rename_i hblk ht
        injection h with h; subst h
        simp only [opHB, loadHB, hx, hblk, ht] at hb
        exact partB_ok hb
      · cases h
    · cases h
  case store t x y =>
    simp only [opH, storeH] at h; split at h
    · rename_i hx
      split at h
      · rename_i hblk ht hy
        injection h with h; subst h
        simp only [opHB, storeHB, hx, hblk, ht, hy, Bool.and_eq_true, decide_eq_true_eq] at hb
        exact hb
      · cases h
    · cases h
  case makeSlice t l c =>
    simp only [opH, makeH] at h; split at h
    · rename_i hl hc
      split at h
      · rename_i ht
        split at h
        · rename_i hte
          injection h with h; subst h
          simp only [opHB, makeHB, hl, hc, ht, hte, Bool.and_eq_true, decide_eq_true_eq] at hb
          exact hb
        · cases h
      · cases h
    · cases h
  case buildSlice t len parts =>
    simp only [opH, buildSliceH] at h; split at h
    · rename_i ht
      split at h
      · rename_i hte
        split at h
        · injection h with h; subst h
          simp only [opHB, buildSliceHB, ht, hte, Bool.and_eq_true, decide_eq_true_eq] at hb
          exact hb
        · cases h
      · cases h
    · cases h
  case call c =>
    obtain ⟨callee, args, ts⟩ := c
    cases callee with
    | value f => simp [opH] at h
    | invoke r m => simp [opH] at h
    | builtin b =>
      cases b
      case append =>
        simp only [opH] at h
        split at h
        · rename_i s x hargs
          simp only [opHB, hargs] at hb
          exact appendHB_ok h hb
        · cases h
      all_goals (simp [opH] at h)
  all_goals (simp [opH] at h)
end Go.VD
