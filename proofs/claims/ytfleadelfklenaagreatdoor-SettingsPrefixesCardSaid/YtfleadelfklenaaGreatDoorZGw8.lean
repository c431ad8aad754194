import Derived.Test.YtfleadelfklenaaGreatDoorZGw7
import Derived.ScopeJumps
section
namespace Go.VD
set_option linter.unusedVariables false
set_option linter.unusedSimpArgs false
def srcB (H : Heap) (es : Nat) : Option D → Bool
  | some (.ro m ys) => decide (m * es ≤ ys.length)
  | some (.sl b off m _) => match blkAt H b with
    | some blk => decide (off + m * es ≤ blk.cs.length)
    | none => false
  | _ => true
theorem srcB_ok {H : Heap} {es : Nat} {x : Option D} {m : Nat} {news : List D} {c : Prop} (h : srcD H es x = some (m, news, c)) (hb : srcB H es x = true) : c := by
  unfold srcD at h
  split at h
  · injection h with h; injection h with _ h; injection h with _ h; subst h; simpa [srcB] using hb
  · split at h
    · rename_i blk hblk
      injection h with h; injection h with _ h; injection h with _ h; subst h; simpa [srcB, hblk] using hb
    · cases h
  · injection h with h; injection h with _ h; injection h with _ h; subst h; trivial
  · cases h
def loadHB (H : Heap) (t : Option TI) : Option D → Bool
  | some (.ptr b off) => match blkAt H b, t with
    | some blk, some ti => partB ti blk.cs off
    | _, _ => false
  | _ => false
def storeHB (H : Heap) (t : Option TI) (ys : Option (List D)) : Option D → Bool
  | some (.ptr b off) => match blkAt H b, t, ys with
    | some blk, some ti, some ys => decide (ys.length = ti.size) && decide (off + ti.size ≤ blk.cs.length)
    | _, _, _ => false
  | _ => false
def makeHB (T : Tbl) (t : Option TI) : Option D → Option D → Bool
  | some (.v (.int _ n)), some (.v (.int _ m)) => match t with
    | some ⟨.slice e, _, _, _⟩ => match T e with
      | some ti => decide (0 ≤ n) && (decide (n ≤ m) && (decide ((ti.bytes : Int) * m ≤ 281474976710656) && decide (m ≤ 9223372036854775807)))
      | none => false
    | _ => false
  | _, _ => false
def buildSliceHB (T : Tbl) (t : Option TI) (len : Nat) : Bool :=
  match t with
  | some ⟨.slice e, _, _, _⟩ => match T e with
    | some ti => decide (len * ti.size ≤ 16777216) && decide (len ≤ maxLen)
    | none => false
  | _ => false
def appendHB (T : Tbl) (H : Heap) (t t' : Option TypeId) (ti : Option TI) (src : Option D) : Option D → Bool
  | some (.sl b 0 n (.toEnd es)) => match t, t', ti with
    | some t, some t', some ⟨.slice e, _, _, _⟩ => match T e, blkAt H b with
      | some te, some blk => match srcD H te.size src with
        | some (m, _, _) => srcB H te.size src && (t == t' && (es == te.size && (blk.ty == e && (decide (n * te.size ≤ blk.cs.length) && (decide (0 < te.size) && (decide (n + m ≤ maxLen) && decide ((n + m) * te.bytes ≤ 140737488355328)))))))
        | none => false
      | _, _ => false
    | _, _, _ => false
  | some (.v (.slice none 0 0)) => match t, t', ti with
    | some t, some t', some ⟨.slice e, _, _, _⟩ => match T e with
      | some te => match srcD H te.size src with
        | some (m, _, _) => srcB H te.size src && (t == t' && (decide (0 < te.size) && (decide (m ≤ maxLen) && decide (m * te.bytes ≤ 140737488355328))))
        | none => false
      | none => false
    | _, _, _ => false
  | _ => false
theorem appendHB_ok {T : Tbl} {H : Heap} {t t' : Option TypeId} {ti : Option TI} {src s : Option D} {out : HOut} (h : appendH T H t t' ti src s = some out) (hb : appendHB T H t t' ti src s = true) : out.c := by
  unfold appendH at h
  split at h
  · split at h
    · split at h
      · rename_i h4 h5
        split at h
        · rename_i h6
          injection h with h; subst h
          simp only [appendHB, h4, h5, h6, Bool.and_eq_true, decide_eq_true_eq, beq_iff_eq] at hb
          exact ⟨srcB_ok h6 hb.1, hb.2⟩
        · rename_i h6
          simp only [appendHB, h4, h5, h6] at hb
          cases hb
      · cases h
    · cases h
  · split at h
    · split at h
      · rename_i h4
        split at h
        · rename_i h6
          injection h with h; subst h
          simp only [appendHB, h4, h6, Bool.and_eq_true, decide_eq_true_eq, beq_iff_eq] at hb
          exact ⟨srcB_ok h6 hb.1, hb.2⟩
        · cases h
      · cases h
    · cases h
  · cases h
def keyB : List Value → List D → Bool
  | [], [] => true
  | .int k _ :: zs, .v (.int l _) :: as => k == l && keyB zs as
  | .string _ :: zs, .v (.string _) :: as => keyB zs as
  | .bool _ :: zs, .v (.bool _) :: as => keyB zs as
  | _, _ => false
theorem keyB_ok : ∀ (zs : List Value) (as : List D), keyB zs as = true → keyC zs as
  | [], [], _ => trivial
  | [], _ :: _, h => by simp [keyB] at h
  | z :: zs, [], h => by cases z <;> simp [keyB] at h
  | z :: zs, a :: as, h => by
    unfold keyB at h
    split at h
    · rename_i heq; cases heq
    · rename_i k n zs' l m as' h1 h2
      injection h1 with h1 h3; injection h2 with h2 h4; subst h1; subst h2; subst h3; subst h4
      simp only [Bool.and_eq_true, beq_iff_eq] at h
      rw [h.1]
      exact ⟨rfl, keyB_ok _ _ h.2⟩
    · rename_i h1 h2
      injection h1 with h1 h3; injection h2 with h2 h4; subst h1; subst h2; subst h3; subst h4
      exact ⟨rfl, keyB_ok _ _ h⟩
    · rename_i h1 h2
      injection h1 with h1 h3; injection h2 with h2 h4; subst h1; subst h2; subst h3; subst h4
      exact ⟨rfl, keyB_ok _ _ h⟩
    · cases h
def valB (b : TI) (vs : List D) : Bool := bif isSlc b then (bif rawB (vs.headD default) then true else cellsZB b.zero vs 0) else cellsZB b.zero vs 0
theorem valB_ok {b : TI} {vs : List D} (h : valB b vs = true) : valC b vs := by
  unfold valB at h
  unfold valC
  cases h1 : isSlc b with
  | false => rw [h1] at h; exact cellsZB_ok _ _ _ h
  | true =>
    rw [h1] at h
    simp only [cond_true] at h ⊢
    cases h2 : rawB (vs.headD default) with
    | false => rw [h2] at h; exact cellsZB_ok _ _ _ h
    | true => trivial
def lookupHB (T : Tbl) (H : Heap) (t : Option TI) (key : Bool → Option (List D)) : Option D → Bool
  | some (.ifc ty (.ptr b 0)) => match mapTI T t with
    | some (a, e) => match mapAt H b (hdrOf a e), key a.td.isAgg with
      | some cs, some k => keyB a.zero k && valB e (mVal a.zero e.size e.zero k cs)
      | _, _ => false
    | none => false
  | some (.v (.map none)) => match mapTI T t with
    | some (a, e) => match key a.td.isAgg with
      | some k => keyB a.zero k && valB e (e.zero.map .v)
      | none => false
    | none => false
  | _ => false
def updateHB (T : Tbl) (t : Option TI) (key val : Bool → Option (List D)) : Bool := match mapTI T t with
  | some (a, e) => match key a.td.isAgg, val e.td.isAgg with
    | some k, some v => keyB a.zero k && Nat.beq v.length e.size
    | _, _ => false
  | none => false
theorem lookupHB_ok {T : Tbl} {H : Heap} {t : Option TI} {key : Bool → Option (List D)} {ok : Bool} {m : Option D} {out : HOut} (h : lookupH T H t key ok m = some out) (hb : lookupHB T H t key m = true) : out.c := by
  unfold lookupH at h
  split at h
  · rename_i ty b
    split at h
    · rename_i a e ht
      split at h
      · rename_i cs kd hcs hk
        cases hty : Nat.beq ty itTy with
        | false => rw [hty] at h; cases h
        | true =>
          rw [hty] at h
          simp only [cond_true, Option.some.injEq] at h
          subst h
          simp only [lookupHB, ht, hcs, hk, Bool.and_eq_true] at hb
          exact ⟨keyB_ok _ _ hb.1, valB_ok hb.2⟩
      · cases h
    · cases h
  · split at h
    · rename_i a e ht
      split at h
      · rename_i kd hk
        injection h with h; subst h
        simp only [lookupHB, ht, hk, Bool.and_eq_true] at hb
        exact ⟨keyB_ok _ _ hb.1, valB_ok hb.2⟩
      · cases h
    · cases h
  · cases h
theorem updateHB_ok {T : Tbl} {H : Heap} {t : Option TI} {key val : Bool → Option (List D)} {m : Option D} {out : HOut} (h : updateH T H t key val m = some out) (hb : updateHB T t key val = true) : out.c := by
  unfold updateH at h
  split at h
  · rename_i ty b
    split at h
    · rename_i a e ht
      split at h
      · rename_i cs kd vd hcs hk hv
        cases hty : Nat.beq ty itTy with
        | false => rw [hty] at h; cases h
        | true =>
          rw [hty] at h
          simp only [cond_true, Option.some.injEq] at h
          subst h
          simp only [updateHB, ht, hk, hv, Bool.and_eq_true] at hb
          exact ⟨keyB_ok _ _ hb.1, Nat.eq_of_beq_eq_true hb.2⟩
      · cases h
    · cases h
  · cases h
def opHB (T : Tbl) (env : Env) (H : Heap) : Op → Bool
  | .lookup t m k ok => lookupHB T H (T t) (fun g => cellsP g (opnd env k)) (opnd env m)
  | .mapUpdate t m k v => updateHB T (T t) (fun g => cellsP g (opnd env k)) (fun g => cellsP g (opnd env v))
  | .insert t m k v => updateHB T (T t) (fun g => cellsP g (opnd env k)) (fun g => cellsP g (opnd env v))
  | .convert s d x => match srcD H 1 (opnd env x) with
    | some (_, news, _) => srcB H 1 (opnd env x) && news.all (isIntB .u8)
    | none => false
  | .load t x => loadHB H (T t) (opnd env x)
  | .store t x y => storeHB H (T t) ((opnd env y).bind cellsD) (opnd env x)
  | .makeSlice t l c => makeHB T (T t) (opnd env l) (opnd env c)
  | .buildSlice t len parts => buildSliceHB T (T t) len
  | .call { callee := .builtin .append, args, argTypes } => match args.toList with
    | [s, x] => appendHB T H argTypes.toList[0]? argTypes.toList[1]? (argTypes.toList[0]?.bind T) (opnd env x) (opnd env s)
    | _ => false
  | _ => true
theorem opHB_ok {T : Tbl} {env : Env} {H : Heap} {op : Op} {out : HOut} (h : opH T env H op = some out) (hb : opHB T env H op = true) : out.c := by
  cases op
  case convert s d x =>
    simp only [opH, bytesH] at h
    split at h
    · split at h
      · split at h
        · rename_i hsrc
          injection h with h; subst h
          simp only [opHB, hsrc, Bool.and_eq_true, List.all_eq_true] at hb
          exact ⟨srcB_ok hsrc hb.1, fun d hd => isIntB_ok (hb.2 d hd)⟩
        · cases h
      · cases h
    · cases h
  case makeMap t r =>
    cases r with
    | some x => simp [opH] at h
    | none =>
      simp only [opH, makeMapH] at h
      split at h
      · injection h with h; subst h; trivial
      · cases h
  case lookup t m k ok => exact lookupHB_ok (by simpa only [opH] using h) (by simpa only [opHB] using hb)
  case mapUpdate t m k v => exact updateHB_ok (by simpa only [opH] using h) (by simpa only [opHB] using hb)
  case insert t m k v => exact updateHB_ok (by simpa only [opH] using h) (by simpa only [opHB] using hb)
  case range t x =>
    simp only [opH, rangeH] at h
    split at h
    · split at h
      · injection h with h; subst h; trivial
      · cases h
    · cases h
  case next it isString =>
    cases isString with
    | false => simp [opH] at h
    | true =>
      simp only [opH, nextH] at h
      split at h
      · split at h
        · injection h with h; subst h; trivial
        · cases h
      · cases h
  case box elem x =>
    simp only [opH, boxH] at h; split at h
    · cases hbe : Nat.beq elem itTy with
      | true => rw [hbe] at h; cases h
      | false => rw [hbe] at h; injection h with h; subst h; trivial
    · cases h
  case alloc elem => simp only [opH] at h; split at h <;> first | (injection h with h; subst h; trivial) | cases h
  case load t x =>
    simp only [opH, loadH] at h; split at h
    · rename_i hx
      split at h
      · rename_i hblk ht
        injection h with h; subst h
        simp only [opHB, loadHB, hx, hblk, ht] at hb
        exact partB_ok hb
      · cases h
    · cases h
  case store t x y =>
    simp only [opH, storeH] at h; split at h
    · rename_i hx
      split at h
      · rename_i hblk ht hy
        injection h with h; subst h
        simp only [opHB, storeHB, hx, hblk, ht, hy, Bool.and_eq_true, decide_eq_true_eq] at hb
        exact hb
      · cases h
    · cases h
  case makeSlice t l c =>
    simp only [opH, makeH] at h; split at h
    · rename_i hl hc
      split at h
      · rename_i ht
        split at h
        · rename_i hte
          injection h with h; subst h
          simp only [opHB, makeHB, hl, hc, ht, hte, Bool.and_eq_true, decide_eq_true_eq] at hb
          exact hb
        · cases h
      · cases h
    · cases h
  case buildSlice t len parts =>
    simp only [opH, buildSliceH] at h; split at h
    · rename_i ht
      split at h
      · rename_i hte
        split at h
        · injection h with h; subst h
          simp only [opHB, buildSliceHB, ht, hte, Bool.and_eq_true, decide_eq_true_eq] at hb
          exact hb
        · cases h
      · cases h
    · cases h
  case call c =>
    obtain ⟨callee, args, ts⟩ := c
    cases callee with
    | value f => simp [opH] at h
    | invoke r m => simp [opH] at h
    | builtin b =>
      cases b
      case append =>
        simp only [opH] at h
        split at h
        · rename_i s x hargs
          simp only [opHB, hargs] at hb
          exact appendHB_ok h hb
        · cases h
      all_goals (simp [opH] at h)
  all_goals (simp [opH] at h)
end Go.VD
end
section
namespace Go.VD
set_option linter.unusedVariables false
set_option linter.unusedSimpArgs false
mutual
def shD (k : Nat) : D → D
  | .v x => .v x
  | .ro n xs => .ro n xs
  | .rp xs j => .rp xs j
  | .sl b off n c => .sl (b + k) off n c
  | .ptr b off => .ptr (b + k) off
  | .agg xs => .agg (shL k xs)
  | .tup xs => .tup (shL k xs)
  | .ifc t d => .ifc t (shD k d)
  | .fn f j caps => .fn f j (shL k caps)
def shL (k : Nat) : List D → List D
  | [] => []
  | d :: ds => shD k d :: shL k ds
end
theorem shL_length (k : Nat) : ∀ ds, (shL k ds).length = ds.length
  | [] => rfl
  | d :: ds => by simp [shL, shL_length k ds]
theorem shL_append (k : Nat) : ∀ a b, shL k (a ++ b) = shL k a ++ shL k b
  | [], b => rfl
  | d :: a, b => by simp [shL, shL_append k a b]
theorem shL_scalars (k : Nat) : ∀ l : List Value, shL k (l.map D.v) = l.map D.v
  | [] => rfl
  | d :: a => by simp [shL, shD, shL_scalars k a]
def shB (k : Nat) (b : Blk) : Blk := ⟨b.ty, shL k b.cs, b.full⟩
theorem Row.sh {k : Nat} {o : Option Obj} {blk : Blk} {cur : Array Value} (h : Row o blk cur) : Row o (shB k blk) cur := by
  rcases h with h | ⟨s, n, rfl, h2, h3, h4⟩ | ⟨ka, va, zk, vn, ents, h⟩
  · exact .inl h
  · exact .inr (.inl ⟨s, n, by simp [shB, shL, shD], h2, h3, h4⟩)
  · exact .inr (.inr ⟨ka, va, zk, vn, ents, h.re rfl rfl fun r e => ⟨shL k r, by simp only [shB, e, shL_append, shL_scalars]⟩⟩)
def shO (k : Nat) : Option Blk → Option Blk
  | some b => some (shB k b)
  | none => none
def shH (k : Nat) (H : Heap) : Heap := H.map (shO k)
section
variable {ρ ρ' : Nat → Nat × Nat} {S S' : Nat → Prop} {w : World} {H H' : Heap} {k : Nat}
mutual
theorem Rd.shift (hS : ∀ x, S x → S' x) (hb : ∀ b, b < H.length → b + k < H'.length ∧ ρ' (b + k) = ρ b) : ∀ (d : D) (u : Value), Rd (ctx ρ S w H) d u → Rd (ctx ρ' S' w H') (shD k d) u
  | .v x, u, hr => by simpa only [Rd, shD] using hr
  | .ro n xs, u, hr => by
    have hn : NamelessL xs := by simp only [Rd] at hr; exact hr.1
    simp only [shD]; exact Rd.moveS hS (by simpa [Nameless] using hn) hr
  | .rp xs j, u, hr => by
    have hn : NamelessL xs := by simp only [Rd] at hr; exact hr.1
    simp only [shD]; exact Rd.moveS hS (by simpa [Nameless] using hn) hr
  | .sl b off n (.exact c _), u, hr => by
    simp only [Rd, shD] at hr ⊢
    obtain ⟨h0, h1, h2, A, h3, h4⟩ := hr
    exact ⟨(hb b h0).1, h1, h2, A, h3, by rw [(hb b h0).2]; exact h4⟩
  | .sl b off n (.toEnd es), u, hr => by
    simp only [Rd, shD] at hr ⊢
    obtain ⟨h0, A, c, h3, h1, h2, h4, h5⟩ := hr
    exact ⟨(hb b h0).1, A, c, h3, h1, h2, by rw [(hb b h0).2]; exact h4, by rw [(hb b h0).2]; exact h5⟩
  | .ptr b off, u, hr => by
    simp only [Rd, shD] at hr ⊢
    exact ⟨(hb b hr.1).1, by rw [(hb b hr.1).2]; exact hr.2⟩
  | .agg xs, u, hr => by
    simp only [Rd, shD] at hr ⊢
    obtain ⟨us, hu, hr⟩ := hr
    exact ⟨us, hu, RdL.shift hS hb xs us.toList hr⟩
  | .tup xs, u, hr => by
    simp only [Rd, shD] at hr ⊢
    obtain ⟨us, hu, hr⟩ := hr
    exact ⟨us, hu, RdT.shift hS hb xs us.toList hr⟩
  | .ifc t d, u, hr => by
    simp only [Rd, shD] at hr ⊢
    obtain ⟨x, hu, hr⟩ := hr
    exact ⟨x, hu, Rd.shift hS hb d x hr⟩
  | .fn f j caps, u, hr => by
    simp only [Rd, shD] at hr ⊢
    obtain ⟨fs, us, hu, hj, hr⟩ := hr
    exact ⟨fs, us, hu, hj, RdT.shift hS hb caps _ hr⟩
theorem RdL.shift (hS : ∀ x, S x → S' x) (hb : ∀ b, b < H.length → b + k < H'.length ∧ ρ' (b + k) = ρ b) : ∀ (ds : List D) (us : List Value), RdL (ctx ρ S w H) ds us → RdL (ctx ρ' S' w H') (shL k ds) us
  | [], us, hr => by simpa only [RdL, shL] using hr
  | d :: ds, us, hr => by
    simp only [RdL, shL] at hr ⊢
    obtain ⟨u, r, hu, ho, hd, hr⟩ := hr
    exact ⟨u, r, hu, ho, Rd.shift hS hb d u hd, RdL.shift hS hb ds r hr⟩
theorem RdT.shift (hS : ∀ x, S x → S' x) (hb : ∀ b, b < H.length → b + k < H'.length ∧ ρ' (b + k) = ρ b) : ∀ (ds : List D) (us : List Value), RdT (ctx ρ S w H) ds us → RdT (ctx ρ' S' w H') (shL k ds) us
  | [], us, hr => by simpa only [RdT, shL] using hr
  | d :: ds, us, hr => by
    simp only [RdT, shL] at hr ⊢
    obtain ⟨u, r, hu, hd, hr⟩ := hr
    exact ⟨u, r, hu, Rd.shift hS hb d u hd, RdT.shift hS hb ds r hr⟩
end
end
theorem shH_get {k : Nat} {H : Heap} {b : Nat} {blk : Blk} (h : (shH k H)[b]? = some (some blk)) : ∃ blk0, H[b]? = some (some blk0) ∧ blk = shB k blk0 := by
  simp only [shH, List.getElem?_map] at h
  cases hb : H[b]? with
  | none => simp [hb] at h
  | some o =>
    simp only [hb, Option.map_some, Option.some.injEq] at h
    cases o with
    | none => simp [shO] at h
    | some blk0 => exact ⟨blk0, rfl, by simpa [shO] using h.symm⟩
theorem CallJ.frame {P : Program} {f : FuncId} {ds : List D} {d : D} {H1 : Heap} (h : CallJ P f ds [] d H1) (hn : NamelessL ds) (H : Heap) : CallJ P f ds H (shD H.length d) (H ++ shH H.length H1) := by
  refine ⟨h.1, fun ρ S w vals hS hv => ?_⟩
  have hsub : ∀ k, S k → k < w.heap.size := fun k hk => (hS.sub k hk).1
  refine (h.2 ρ S w vals (St.nil _ hsub hS.glob) (RdT.move hn hv)).mono fun e w' ⟨v, ρ1, S1, he, hS1, hle, hd⟩ => ?_
  have nl : ∀ k, ¬ Live ρ [] k := fun k ⟨b, blk, hb, _⟩ => by simp at hb
  have new : ∀ k, Live ρ1 H1 k → w.heap.size ≤ k := fun k hk => by
    rcases Nat.lt_or_ge k w.heap.size with h | h
    · exact absurd hk (hle.fix k ⟨h, nl k⟩).2
    · exact h
  let ρ2 : Nat → Nat × Nat := fun b => if b < H.length then ρ b else ρ1 (b - H.length)
  have e1 : ∀ b, b < H.length → ρ2 b = ρ b := fun b hb => if_pos hb
  have e2 : ∀ b, ρ2 (b + H.length) = ρ1 b := fun b => by
    show (if _ then _ else _) = _
    rw [if_neg (by omega)]; congr 1; omega
  have split : ∀ b blk, (H ++ shH H.length H1)[b]? = some (some blk) → (b < H.length ∧ H[b]? = some (some blk)) ∨ (∃ c blk0, b = c + H.length ∧ H1[c]? = some (some blk0) ∧ blk = shB H.length blk0) := by
    intro b blk hb
    rcases Nat.lt_or_ge b H.length with hlt | hge
    · rw [List.getElem?_append_left hlt] at hb; exact .inl ⟨hlt, hb⟩
    · rw [List.getElem?_append_right hge] at hb
      obtain ⟨blk0, h1, h2⟩ := shH_get hb
      exact .inr ⟨b - H.length, blk0, by omega, h1, h2⟩
  have live : ∀ k, Live ρ2 (H ++ shH H.length H1) k → Live ρ H k ∨ Live ρ1 H1 k := by
    rintro k ⟨b, blk, hb, hz, hk⟩
    rcases split b blk hb with ⟨h1, h2⟩ | ⟨c, blk0, rfl, h2, h3⟩
    · rw [e1 b h1] at hz hk; exact .inl ⟨b, blk, h2, hz, hk⟩
    · rw [e2] at hz hk; exact .inr ⟨c, blk0, h2, hz, hk⟩
  have hlen : (H ++ shH H.length H1).length = H.length + H1.length := by simp [shH]
  have hle2 : (ctx ρ S w H).le (ctx ρ2 S1 w' (H ++ shH H.length H1)) :=
    ⟨by simp [shH], e1, hle.S, hle.keep, fun k hk => by
      rcases hle.new k hk with h | h | h
      · exact .inl h
      · exact absurd h (nl k)
      · exact .inr (.inr h),
    fun k hk => ⟨Nat.lt_of_lt_of_le hk.1 hle.size, fun hl => by
      rcases live k hl with h | h
      · exact hk.2 h
      · have := new k h; have := hk.1; simp only [ctx] at *; omega⟩,
    fun k hk => hle.heap k ⟨hk.1, nl k⟩, hle.size, hle.os, hle.tape, hle.output⟩
  have hsh : ∀ b, b < H1.length → b + H.length < (H ++ shH H.length H1).length ∧ ρ2 (b + H.length) = ρ1 b := fun b hb => ⟨by rw [hlen]; omega, e2 b⟩
  refine ⟨v, ρ2, S1, he, ⟨fun k hk => ⟨(hS1.sub k hk).1, fun hl => ?_⟩, ?_, ?_, ?_, hS1.glob⟩, hle2, Rd.shift (fun _ h => h) hsh d v hd⟩
  · rcases live k hl with h | h
    · rcases hle.new k hk with h2 | h2 | h2
      · exact (hS.sub k h2).2 h
      · exact nl k h2
      · have := hS.lt h; simp only [ctx] at *; omega
    · exact (hS1.sub k hk).2 h
  · intro b blk hb hz
    rcases split b blk hb with ⟨h1, h2⟩ | ⟨c, blk0, rfl, h2, rfl⟩
    · rw [e1 b h1] at hz; exact hS.none b blk h2 hz
    · rw [e2] at hz
      have := hS1.none c blk0 h2 hz
      simp [shB, this, shL]
  · intro b blk hb hz
    rcases split b blk hb with ⟨h1, h2⟩ | ⟨c, blk0, rfl, h2, rfl⟩
    · rw [e1 b h1] at hz ⊢
      obtain ⟨cur, hc⟩ := hS.blk b blk h2 hz
      exact ⟨cur, hc.heap.of (hle.heap _ ⟨hc.lt, nl _⟩), hc.size, hc.pre.mono hle2 _ _, hc.full⟩
    · rw [e2] at hz ⊢
      obtain ⟨cur, hc⟩ := hS1.blk c blk0 h2 hz
      refine ⟨cur, hc.heap.sh, hc.size, ?_, fun hf => ?_⟩
      · have := RdL.shift (S' := S1) (fun _ h => h) hsh blk0.cs _ hc.pre
        simpa [shB, shL_length] using this
      · have := hc.full (by simpa [shB] using hf)
        simpa [shB, shL_length] using this
  · intro b b' blk blk' hb hb' hz hz' hk
    rcases split b blk hb with ⟨h1, h2⟩ | ⟨c, blk0, rfl, h2, rfl⟩ <;> rcases split b' blk' hb' with ⟨h1', h2'⟩ | ⟨c', blk0', rfl, h2', rfl⟩
    · rw [e1 b h1] at hz hk; rw [e1 b' h1'] at hz' hk
      exact hS.inj b b' blk blk' h2 h2' hz hz' hk
    · rw [e1 b h1] at hz hk; rw [e2] at hz' hk
      have := new _ ⟨c', blk0', h2', hz', rfl⟩
      have := hS.lt ⟨b, blk, h2, hz, rfl⟩
      omega
    · rw [e2] at hz hk; rw [e1 b' h1'] at hz' hk
      have := new _ ⟨c, blk0, h2, hz, rfl⟩
      have := hS.lt ⟨b', blk', h2', hz', rfl⟩
      omega
    · rw [e2] at hz hk; rw [e2] at hz' hk
      have := hS1.inj c c' blk0 blk0' h2 h2' hz hz' hk
      omega
mutual
def namelessB : D → Bool
  | .v _ => true
  | .ro _ xs => namelessLB xs
  | .rp xs _ => namelessLB xs
  | .sl .. => false
  | .ptr .. => false
  | .agg xs => namelessLB xs
  | .tup xs => namelessLB xs
  | .ifc _ d => namelessB d
  | .fn _ _ caps => namelessLB caps
def namelessLB : List D → Bool
  | [] => true
  | d :: ds => namelessB d && namelessLB ds
end
mutual
theorem namelessB_ok : ∀ d : D, namelessB d = true → Nameless d
  | .v _, h => trivial
  | .ro _ xs, h => by simp only [namelessB] at h; simp only [Nameless]; exact namelessLB_ok xs h
  | .rp xs _, h => by simp only [namelessB] at h; simp only [Nameless]; exact namelessLB_ok xs h
  | .sl .., h => by simp [namelessB] at h
  | .ptr .., h => by simp [namelessB] at h
  | .agg xs, h => by simp only [namelessB] at h; simp only [Nameless]; exact namelessLB_ok xs h
  | .tup xs, h => by simp only [namelessB] at h; simp only [Nameless]; exact namelessLB_ok xs h
  | .ifc _ d, h => by simp only [namelessB] at h; simp only [Nameless]; exact namelessB_ok d h
  | .fn _ _ caps, h => by simp only [namelessB] at h; simp only [Nameless]; exact namelessLB_ok caps h
theorem namelessLB_ok : ∀ ds : List D, namelessLB ds = true → NamelessL ds
  | [], h => trivial
  | d :: ds, h => by simp only [namelessLB, Bool.and_eq_true] at h; simp only [NamelessL]; exact ⟨namelessB_ok d h.1, namelessLB_ok ds h.2⟩
end
def scalarL : List D → Bool
  | [] => true
  | .v _ :: r => scalarL r
  | _ => false
def scalarB : D → Bool
  | .v _ => true
  | .tup xs => scalarL xs
  | _ => false
theorem scalarL_rd {E E' : Ctx} : ∀ (ds : List D) (us : List Value), scalarL ds = true → RdT E ds us → RdT E' ds us
  | [], us, _, h => by simpa only [RdT] using h
  | .v x :: r, us, hs, h => by
    simp only [scalarL] at hs
    simp only [RdT, Rd] at h ⊢
    obtain ⟨u, q, e, hu, h⟩ := h
    exact ⟨u, q, e, hu, scalarL_rd r q hs h⟩
  | .ro .. :: _, _, hs, _ => by simp [scalarL] at hs
  | .rp .. :: _, _, hs, _ => by simp [scalarL] at hs
  | .sl .. :: _, _, hs, _ => by simp [scalarL] at hs
  | .ptr .. :: _, _, hs, _ => by simp [scalarL] at hs
  | .agg .. :: _, _, hs, _ => by simp [scalarL] at hs
  | .tup .. :: _, _, hs, _ => by simp [scalarL] at hs
  | .ifc .. :: _, _, hs, _ => by simp [scalarL] at hs
  | .fn .. :: _, _, hs, _ => by simp [scalarL] at hs
theorem scalarB_rd {E E' : Ctx} {d : D} {u : Value} (hs : scalarB d = true) (h : Rd E d u) : Rd E' d u := by
  cases d <;> simp only [scalarB] at hs <;> first | (cases hs; done) | skip
  case v x => simpa only [Rd] using h
  case tup xs =>
    simp only [Rd] at h ⊢
    obtain ⟨us, hu, h⟩ := h
    exact ⟨us, hu, scalarL_rd xs us.toList hs h⟩
theorem PureJ.borrow {P : Program} {f : FuncId} {ds ds' : List D} {d : D} {H : Heap} {c : Prop} (h : PureJ P f ds' d) (hs : sealL H ds = some (ds', c)) (hc : c) (hd : scalarB d = true) : CallJ P f ds H d H := by
  refine ⟨h.callable, fun ρ S w vals hS hv => ?_⟩
  have hsub : ∀ k, (S k ∨ Live ρ H k) → k < w.heap.size := fun k hk => by
    rcases hk with h | h
    · exact (hS.sub k h).1
    · exact hS.lt h
  have h1 : RdT (ctx ρ (fun k => S k ∨ Live ρ H k) w []) ds' vals :=
    sealT_rd (S' := fun k => S k ∨ Live ρ H k) (H' := []) hS (fun k h => .inl h) (fun b blk hb hz => .inr ⟨b, blk, hb, hz, rfl⟩) ds ds' c vals hs hc hv
  refine (h.call (fun k => S k ∨ Live ρ H k) w vals hsub (hS.glob.mono (fun _ h => .inl h) fun _ _ => rfl) (RdT.move h.args h1)).mono fun e w' ⟨v, S', he, hg, _, _, _, hr⟩ => ?_
  exact ⟨v, ρ, S, he, hS.grow hg, hg.le (fun k hk => (hS.sub k hk).1), scalarB_rd hd hr⟩
def dropN (H : Heap) : List Nat → Heap
  | [] => H
  | b :: r => dropN (H.set b none) r
theorem dropN_drops : ∀ (l : List Nat) (H : Heap), Drops H (dropN H l)
  | [], H => Drops.refl H
  | b :: r, H => (Drops.set H b).trans (dropN_drops r _)
theorem dropN_gone : ∀ (l : List Nat) (H : Heap) (b : Nat), b ∈ l → ∀ blk, ¬ (dropN H l)[b]? = some (some blk)
  | [], H, b, h, _ => by simp at h
  | c :: r, H, b, h, blk => by
    intro hb
    have hd := (dropN_drops r (H.set c none)).2 b blk hb
    rcases List.mem_cons.1 h with rfl | h
    · rw [List.getElem?_set] at hd
      split at hd <;> simp_all
    · exact dropN_gone r (H.set c none) b h blk hb
theorem PureJ.hand {P : Program} {f : FuncId} {ds ds' : List D} {d : D} {H : Heap} {c : Prop} (h : PureJ P f ds' d) (hs : sealL H ds = some (ds', c)) (hc : c) : CallJ P f ds H d (dropN H (namesD.namesA ds)) := by
  refine ⟨h.callable, fun ρ S w vals hS hv => ?_⟩
  let S0 : Nat → Prop := fun k => S k ∨ ∃ b blk, b ∈ namesD.namesA ds ∧ H[b]? = some (some blk) ∧ 0 < (ρ b).2 ∧ (ρ b).1 = k
  have hD := dropN_drops (namesD.namesA ds) H
  have hsub : ∀ k, S0 k → k < w.heap.size := fun k hk => by
    rcases hk with h | ⟨b, blk, _, h2, h3, h4⟩
    · exact (hS.sub k h).1
    · exact hS.lt ⟨b, blk, h2, h3, h4⟩
  have h1 : RdT (ctx ρ S0 w []) ds' vals :=
    sealT_rdN (N := fun b => b ∈ namesD.namesA ds) (S' := S0) (H' := []) hS (fun k h => .inl h) (fun b blk hn hb hz => .inr ⟨b, blk, hn, hb, hz, rfl⟩) ds ds' c vals (fun b hb => hb) hs hc hv
  have hfix0 : ∀ k, S0 k → Fix (ctx ρ S0 w (dropN H (namesD.namesA ds))) k := fun k hk => ⟨hsub k hk, fun ⟨b, blk, hb, hz, e⟩ => by
    have hb0 := hD.2 b blk hb
    rcases hk with hk | ⟨b', blk', hn, hb', hz', e'⟩
    · exact (hS.sub k hk).2 ⟨b, blk, hb0, hz, e⟩
    · have := hS.inj b b' _ _ hb0 hb' hz hz' (e.trans e'.symm)
      subst this
      exact dropN_gone _ H b hn blk hb⟩
  refine (h.call S0 w vals hsub (hS.glob.mono (fun _ h => .inl h) fun _ _ => rfl) (RdT.move h.args h1)).mono fun e w' ⟨v, S', he, hg, g1, g2, g3, g4⟩ => ?_
  have hSd := hS.drops hD
  have hfix : ∀ k, S' k → Fix (ctx ρ S' w' (dropN H (namesD.namesA ds))) k := fun k hk => ⟨g3 k hk, fun hl => by
    rcases g2 k hk with h | h
    · exact (hfix0 k h).2 hl
    · have := hSd.lt hl; omega⟩
  have hle : (ctx ρ S w H).le (ctx ρ S' w' (dropN H (namesD.namesA ds))) :=
    ⟨Nat.le_of_eq hD.1.symm, fun _ _ => rfl, fun k hk => g1 k (.inl hk), fun k hk => hg.heap k (hS.sub k hk).1, fun k hk => by
      rcases g2 k hk with (h | ⟨b, blk, _, h2, h3, h4⟩) | h
      · exact .inl h
      · exact .inr (.inl ⟨b, blk, h2, h3, h4⟩)
      · exact .inr (.inr h),
     fun k hk => ⟨Nat.lt_of_lt_of_le hk.1 hg.size, fun ⟨b, blk, hb, hz, e⟩ => hk.2 ⟨b, blk, hD.2 b blk hb, hz, e⟩⟩, fun k hk => hg.heap k hk.1, hg.size, hg.os, hg.tape, hg.output⟩
  refine ⟨v, ρ, S', he, ⟨hfix, fun b blk hb hz => hS.none b blk (hD.2 b blk hb) hz, fun b blk hb hz => ?_, fun b b' blk blk' hb hb' hz hz' e => hS.inj b b' _ _ (hD.2 _ _ hb) (hD.2 _ _ hb') hz hz' e, hS.glob.mono (fun _ h => g1 _ (.inl h)) hle.keep⟩, hle, Rd.move h.res g4⟩
  obtain ⟨cur, hcur⟩ := hS.blk b blk (hD.2 b blk hb) hz
  exact ⟨cur, hcur.heap.of (hg.heap _ hcur.lt), hcur.size, hcur.pre.mono hle _ _, hcur.full⟩
mutual
def sealDB (H : Heap) : D → Bool
  | .sl b off n c => match blkAt H b with
    | some blk => match c with
      | .exact _ es => namelessLB blk.cs && (decide (0 < es) && decide (off + n * es ≤ blk.cs.length))
      | .toEnd es => namelessLB blk.cs && (decide (0 < es) && decide (off + n * es ≤ blk.cs.length))
    | none => false
  | .ptr b off => match blkAt H b with
    | some blk => namelessLB blk.cs && decide (0 < blk.cs.length)
    | none => false
  | .agg xs => sealLB H xs
  | .tup xs => sealLB H xs
  | .ifc _ d => sealDB H d
  | .fn _ _ caps => sealLB H caps
  | _ => true
def sealLB (H : Heap) : List D → Bool
  | [] => true
  | d :: ds => sealDB H d && sealLB H ds
end
mutual
theorem sealDB_ok {H : Heap} : ∀ (d e : D) (c : Prop), sealD H d = some (e, c) → sealDB H d = true → c
  | .v x, e, c, h, hb => by simp only [sealD] at h; obtain ⟨_, rfl⟩ := pair_inj h; trivial
  | .ro n xs, e, c, h, hb => by simp only [sealD] at h; obtain ⟨_, rfl⟩ := pair_inj h; trivial
  | .rp xs j, e, c, h, hb => by simp only [sealD] at h; obtain ⟨_, rfl⟩ := pair_inj h; trivial
  | .sl b off n cp, e, c, h, hb => by
    simp only [sealD] at h
    split at h
    · rename_i blk hblk
      cases cp <;> simp only at h <;> obtain ⟨_, rfl⟩ := pair_inj h <;> simp only [sealDB, hblk, Bool.and_eq_true, decide_eq_true_eq] at hb <;> exact ⟨namelessLB_ok _ hb.1, hb.2⟩
    · cases h
  | .ptr b off, e, c, h, hb => by
    simp only [sealD] at h
    split at h
    · rename_i blk hblk
      obtain ⟨_, rfl⟩ := pair_inj h
      simp only [sealDB, hblk, Bool.and_eq_true, decide_eq_true_eq] at hb
      exact ⟨namelessLB_ok _ hb.1, hb.2⟩
    · cases h
  | .agg xs, e, c, h, hb => by
    simp only [sealD] at h
    split at h
    · rename_i hl
      obtain ⟨_, rfl⟩ := pair_inj h
      exact sealLB_ok xs _ _ hl (by simpa only [sealDB] using hb)
    · cases h
  | .tup xs, e, c, h, hb => by
    simp only [sealD] at h
    split at h
    · rename_i hl
      obtain ⟨_, rfl⟩ := pair_inj h
      exact sealLB_ok xs _ _ hl (by simpa only [sealDB] using hb)
    · cases h
  | .ifc t d, e, c, h, hb => by
    simp only [sealD] at h
    split at h
    · rename_i hl
      obtain ⟨_, rfl⟩ := pair_inj h
      exact sealDB_ok d _ _ hl (by simpa only [sealDB] using hb)
    · cases h
  | .fn f j caps, e, c, h, hb => by
    simp only [sealD] at h
    split at h
    · rename_i hl
      obtain ⟨_, rfl⟩ := pair_inj h
      exact sealLB_ok caps _ _ hl (by simpa only [sealDB] using hb)
    · cases h
theorem sealLB_ok {H : Heap} : ∀ (ds es : List D) (c : Prop), sealL H ds = some (es, c) → sealLB H ds = true → c
  | [], es, c, h, hb => by simp only [sealL] at h; obtain ⟨_, rfl⟩ := pair_inj h; trivial
  | d :: ds, es, c, h, hb => by
    simp only [sealL] at h
    split at h
    · rename_i h1 h2
      obtain ⟨_, rfl⟩ := pair_inj h
      simp only [sealLB, Bool.and_eq_true] at hb
      exact ⟨sealDB_ok d _ _ h1 hb.1, sealLB_ok ds _ _ h2 hb.2⟩
    · cases h
end
end Go.VD
end
section
namespace Go.VD
set_option linter.unusedVariables false
set_option linter.unusedSimpArgs false
theorem exists_min {p : Nat → Prop} (h : ∃ n, p n) : ∃ n, p n ∧ ∀ m, p m → n ≤ m := by
  obtain ⟨n, hn⟩ := h
  induction n using Nat.strongRecOn with
  | _ n ih =>
    by_cases hm : ∃ m, m < n ∧ p m
    · obtain ⟨m, h1, h2⟩ := hm
      exact ih m h1 h2
    · exact ⟨n, hn, fun m h2 => Nat.le_of_not_lt fun h1 => hm ⟨m, h1, h2⟩⟩
open Classical in
theorem wp_scope_ghost {P : Program} {a : Act} {w : World} {Q : Exit → Act → World → Prop} {c rest : Code} (l : Nat) (J : Nat → Act → World → Prop) (hf : findLabel c l = some rest)
    (first : c.wp P (Exit.jump l (fun a w => ∃ n, J n a w) Q) a w)
    (pass : ∀ n a w, J n a w → rest.wp P (Exit.jump l (fun a' w' => ∃ m, m < n ∧ J m a' w') Q) a w) : (Code.scope c).wp P Q a w := by
  let μ : Act → World → Nat := fun a w => if h : ∃ n, J n a w then Classical.choose (exists_min h) else 0
  refine wp_scope_jumps l (fun a w => ∃ n, J n a w) μ hf first fun a w hJ => ?_
  have hs := Classical.choose_spec (exists_min hJ)
  have hμ : μ a w = Classical.choose (exists_min hJ) := dif_pos hJ
  refine wp_mono (pass _ a w hs.1) fun e a' w' he => ?_
  cases e with
  | goto l' =>
    obtain ⟨rfl, m, hm, hJm⟩ := he
    have h' : ∃ n, J n a' w' := ⟨m, hJm⟩
    refine ⟨rfl, h', ?_⟩
    have h2 := (Classical.choose_spec (exists_min h')).2 m hJm
    have h3 : μ a' w' = Classical.choose (exists_min h') := dif_pos h'
    show μ a' w' < μ a w
    rw [hμ, h3]
    omega
  | _ => exact he
def jumpQ (l : Nat) (J : Env → Heap → Prop) (Q : Exit → Env → Heap → Prop) : Exit → Env → Heap → Prop
  | .goto l', env, H => l' = l ∧ J env H
  | e, env, H => Q e env H
variable {P : Program} {nt : Nat}
theorem DW.scopeJump {α : Type} {l : Nat} (J : α → Prop) (I : α → Env) (HI : α → Heap) (μ : α → Nat) {c rest : Code} {Q : Exit → Env → Heap → Prop} {env : Env} {H : Heap} (hf : findLabel c l = some rest)
    (first : DW P nt c (jumpQ l (fun env' H' => ∃ y, J y ∧ Has env' (I y) ∧ H' = HI y) Q) env H)
    (pass : ∀ x, J x → DW P nt rest (jumpQ l (fun env' H' => ∃ y, μ y < μ x ∧ J y ∧ Has env' (I y) ∧ H' = HI y) Q) (I x) (HI x)) : DW P nt (.scope c) Q env H := by
  intro ρ S w a hi
  refine wp_scope_ghost l (fun n a' w' => ∃ x ρ' S', μ x = n ∧ J x ∧ Inv nt ρ' S' w' (HI x) (I x) a' ∧ (ctx ρ S w H).le (ctx ρ' S' w' (HI x))) hf ?_ ?_
  · refine wp_mono (first ρ S w a hi) fun e a' w' ⟨env', H', ρ', S', h1, h2, h3⟩ => ?_
    cases e with
    | goto l' =>
      obtain ⟨rfl, y, hJ, hhas, rfl⟩ := h1
      exact ⟨rfl, μ y, y, ρ', S', rfl, hJ, h2.sub hhas, h3⟩
    | _ => exact ⟨env', H', ρ', S', h1, h2, h3⟩
  · rintro n a' w' ⟨x, ρ', S', rfl, hx, hi', hle⟩
    refine wp_mono (pass x hx ρ' S' w' a' hi') fun e a'' w'' ⟨env', H', ρ'', S'', h1, h2, h3⟩ => ?_
    cases e with
    | goto l' =>
      obtain ⟨rfl, y, hy, hJ, hhas, rfl⟩ := h1
      exact ⟨rfl, μ y, hy, y, ρ'', S'', rfl, hJ, h2.sub hhas, hle.trans h3⟩
    | _ => exact ⟨env', H', ρ'', S'', h1, h2, hle.trans h3⟩
end Go.VD
end
section
namespace Go.VD
set_option linter.unusedVariables false
set_option linter.unusedSimpArgs false
section
variable {ρ : Nat → Nat × Nat} {S : Nat → Prop} {w : World} {H H' : Heap}
mutual
theorem rd_cut : ∀ (d : D) (u : Value), (∀ b ∈ namesD d, b < H'.length) → Rd (ctx ρ S w H) d u → Rd (ctx ρ S w H') d u
  | .v x, u, _, hr => by simpa only [Rd] using hr
  | .ro n xs, u, _, hr => Rd.move (by simp only [Rd] at hr; simpa [Nameless] using hr.1) hr
  | .rp xs j, u, _, hr => Rd.move (by simp only [Rd] at hr; simpa [Nameless] using hr.1) hr
  | .sl b off n (.exact c es), u, hn, hr => by simp only [Rd] at hr ⊢; exact ⟨hn b (by simp [namesD]), hr.2⟩
  | .sl b off n (.toEnd es), u, hn, hr => by simp only [Rd] at hr ⊢; exact ⟨hn b (by simp [namesD]), hr.2⟩
  | .ptr b off, u, hn, hr => by simp only [Rd] at hr ⊢; exact ⟨hn b (by simp [namesD]), hr.2⟩
  | .agg xs, u, hn, hr => by
    simp only [Rd] at hr ⊢
    obtain ⟨us, e, h⟩ := hr
    exact ⟨us, e, rdL_cut xs _ (by simpa [namesD] using hn) h⟩
  | .tup xs, u, hn, hr => by
    simp only [Rd] at hr ⊢
    obtain ⟨us, e, h⟩ := hr
    exact ⟨us, e, rdT_cut xs _ (by simpa [namesD] using hn) h⟩
  | .ifc t d, u, hn, hr => by
    simp only [Rd] at hr ⊢
    obtain ⟨x, e, h⟩ := hr
    exact ⟨x, e, rd_cut d x (by simpa [namesD] using hn) h⟩
  | .fn f k caps, u, hn, hr => by
    simp only [Rd] at hr ⊢
    obtain ⟨fs, us, e, hk, h⟩ := hr
    exact ⟨fs, us, e, hk, rdT_cut caps _ (by simpa [namesD] using hn) h⟩
theorem rdL_cut : ∀ (ds : List D) (us : List Value), (∀ b ∈ namesD.namesA ds, b < H'.length) → RdL (ctx ρ S w H) ds us → RdL (ctx ρ S w H') ds us
  | [], us, _, h => by simpa only [RdL] using h
  | d :: ds, us, hn, h => by
    simp only [namesD.namesA, List.mem_append] at hn
    simp only [RdL] at h ⊢
    obtain ⟨u, r, e, ho, hd, hr⟩ := h
    exact ⟨u, r, e, ho, rd_cut d u (fun b h => hn b (.inl h)) hd, rdL_cut ds r (fun b h => hn b (.inr h)) hr⟩
theorem rdT_cut : ∀ (ds : List D) (us : List Value), (∀ b ∈ namesD.namesA ds, b < H'.length) → RdT (ctx ρ S w H) ds us → RdT (ctx ρ S w H') ds us
  | [], us, _, h => by simpa only [RdT] using h
  | d :: ds, us, hn, h => by
    simp only [namesD.namesA, List.mem_append] at hn
    simp only [RdT] at h ⊢
    obtain ⟨u, r, e, hd, hr⟩ := h
    exact ⟨u, r, e, rd_cut d u (fun b h => hn b (.inl h)) hd, rdT_cut ds r (fun b h => hn b (.inr h)) hr⟩
end
end
def namesH : Heap → List Nat
  | [] => []
  | some b :: r => namesD.namesA b.cs ++ namesH r
  | none :: r => namesH r
theorem namesH_get : ∀ (H : Heap) (b : Nat) (blk : Blk), H[b]? = some (some blk) → ∀ c ∈ namesD.namesA blk.cs, c ∈ namesH H
  | [], b, blk, h => by simp at h
  | x :: r, b, blk, h => by
    intro c hc
    cases b with
    | zero =>
      simp only [List.getElem?_cons_zero, Option.some.injEq] at h
      subst h
      simp only [namesH, List.mem_append]
      exact .inl hc
    | succ b =>
      have := namesH_get r b blk (by simpa using h) c hc
      cases x with
      | none => exact this
      | some y => simp only [namesH, List.mem_append]; exact .inr this
def cutOk (n : Nat) (d : D) (X : Heap) : Bool := Nat.ble n X.length && ((namesD d).all (fun b => Nat.blt b n) && (namesH (X.take n)).all fun b => Nat.blt b n)
def cut (n : Nat) (d : D) (X : Heap) : Heap := bif cutOk n d X then X.take n else X
theorem fin_cut {ds : List D} {d : D} {H X : Heap} : Fin ds H d X d (cut H.length d X) := by
  unfold cut
  cases hc : cutOk H.length d X with
  | false => exact fin_same
  | true =>
    simp only [cond_true]
    unfold cutOk at hc
    simp only [Bool.and_eq_true, List.all_eq_true] at hc
    obtain ⟨h0, h1, h2⟩ := hc
    have h0 : H.length ≤ X.length := Nat.le_of_ble_eq_true h0
    have h1 : ∀ b ∈ namesD d, b < H.length := fun b hb => by have := h1 b hb; simpa [Nat.blt_eq] using this
    have h2 : ∀ b ∈ namesH (X.take H.length), b < H.length := fun b hb => by have := h2 b hb; simpa [Nat.blt_eq] using this
    have hlen : (X.take H.length).length = H.length := by rw [List.length_take]; omega
    have get : ∀ b blk, (X.take H.length)[b]? = some (some blk) → X[b]? = some (some blk) := fun b blk h => by
      rw [List.getElem?_take] at h
      split at h
      · exact h
      · cases h
    intro ρ0 S0 w0 ρ S w u hS0 hle hS hr
    have up : ∀ k, Live ρ (X.take H.length) k → Live ρ X k := fun k ⟨b, blk, hb, hz, e⟩ => ⟨b, blk, get b blk hb, hz, e⟩
    refine ⟨ρ, S, ⟨fun k hk => ⟨(hS.sub k hk).1, fun hl => (hS.sub k hk).2 (up k hl)⟩, fun b blk hb hz => hS.none b blk (get b blk hb) hz, fun b blk hb hz => ?_, fun b c bl bl' hb hc hz hz' e => hS.inj b c bl bl' (get _ _ hb) (get _ _ hc) hz hz' e, hS.glob⟩, ?_, rd_cut d u (by rw [hlen]; exact h1) hr⟩
    · obtain ⟨cur, hcur⟩ := hS.blk b blk (get b blk hb) hz
      exact ⟨cur, hcur.heap, hcur.size, rdL_cut _ _ (by rw [hlen]; exact fun c hc => h2 c (namesH_get _ _ _ hb c hc)) hcur.pre, hcur.full⟩
    · exact ⟨by show H.length ≤ (X.take H.length).length; omega, hle.ρ, hle.S, hle.keep, hle.new, fun k hk => ⟨(hle.fix k hk).1, fun hl => (hle.fix k hk).2 (up k hl)⟩, hle.heap, hle.size, hle.os, hle.tape, hle.output⟩
theorem cut_length {n : Nat} {d : D} {X : Heap} (h : n ≤ X.length) : n ≤ (cut n d X).length := by
  unfold cut
  cases cutOk n d X with
  | true => simp only [cond_true, List.length_take]; omega
  | false => exact h
def sameBlk : Option (Option Blk) → Option (Option Blk) → Bool
  | some (some x), some (some y) => Nat.beq x.ty y.ty && ((x.full == y.full) && sameL x.cs y.cs)
  | some none, some none => true
  | none, none => true
  | _, _ => false
theorem sameBlk_eq {a b : Option (Option Blk)} (h : sameBlk a b = true) : a = b := by
  unfold sameBlk at h
  split at h
  · rename_i x y
    simp only [Bool.and_eq_true, beq_iff_eq] at h
    obtain ⟨ty, cs, full⟩ := x
    obtain ⟨ty', cs', full'⟩ := y
    simp only at h
    rw [Nat.eq_of_beq_eq_true h.1, h.2.1, sameL_eq _ _ h.2.2]
  · rfl
  · rfl
  · cases h
def unchanged (H X : Heap) (σ : List Nat) : List Nat := σ.filter fun b => sameBlk X[b]? H[b]?
def changed (H X : Heap) (σ : List Nat) : List Nat := σ.filter fun b => !sameBlk X[b]? H[b]?
theorem un_split {H X : Heap} {σ : List Nat} : (∀ b ∈ σ, b ∈ unchanged H X σ ∨ b ∈ changed H X σ) ∧ (∀ b ∈ unchanged H X σ, X[b]? = H[b]?) ∧ (∀ b ∈ changed H X σ, b ∈ σ) ∧ ∀ b ∈ unchanged H X σ, b ∈ σ := by
  refine ⟨fun b hb => ?_, fun b hb => ?_, fun b hb => (List.mem_filter.1 hb).1, fun b hb => (List.mem_filter.1 hb).1⟩
  · cases h : sameBlk X[b]? H[b]? with
    | true => exact .inl (List.mem_filter.2 ⟨hb, h⟩)
    | false => exact .inr (List.mem_filter.2 ⟨hb, by rw [h]; rfl⟩)
  · exact sameBlk_eq (List.mem_filter.1 hb).2
end Go.VD
end
section
namespace Go.VD
set_option linter.unusedVariables false
set_option linter.unusedSimpArgs false
mutual
def rnD (g : Nat → Nat) : D → D
  | .v x => .v x
  | .ro n xs => .ro n xs
  | .rp xs j => .rp xs j
  | .sl b off n c => .sl (g b) off n c
  | .ptr b off => .ptr (g b) off
  | .agg xs => .agg (rnL g xs)
  | .tup xs => .tup (rnL g xs)
  | .ifc t d => .ifc t (rnD g d)
  | .fn f k caps => .fn f k (rnL g caps)
def rnL (g : Nat → Nat) : List D → List D
  | [] => []
  | d :: ds => rnD g d :: rnL g ds
end
def rnB (g : Nat → Nat) (b : Blk) : Blk := ⟨b.ty, rnL g b.cs, b.full⟩
theorem rnL_length (g : Nat → Nat) : ∀ ds, (rnL g ds).length = ds.length
  | [] => rfl
  | d :: ds => by simp only [rnL, List.length_cons, rnL_length g ds]
theorem rnL_append (g : Nat → Nat) : ∀ a b, rnL g (a ++ b) = rnL g a ++ rnL g b
  | [], b => rfl
  | d :: a, b => by simp [rnL, rnL_append g a b]
theorem rnL_scalars (g : Nat → Nat) : ∀ l : List Value, rnL g (l.map D.v) = l.map D.v
  | [] => rfl
  | d :: a => by simp [rnL, rnD, rnL_scalars g a]
theorem rnL_unscalars (g : Nat → Nat) : ∀ (l : List Value) (r cs : List D), rnL g cs = l.map D.v ++ r → ∃ r', cs = l.map D.v ++ r'
  | [], r, cs, _ => ⟨cs, rfl⟩
  | x :: l, r, [], h => by simp [rnL] at h
  | x :: l, r, d :: cs, h => by
    simp only [rnL, List.map_cons, List.cons_append, List.cons.injEq] at h
    obtain ⟨r', rfl⟩ := rnL_unscalars g l r cs h.2
    have e1 : d = .v x := by cases d <;> simp_all [rnD]
    exact ⟨r', by rw [e1]; rfl⟩
theorem Row.rn {g : Nat → Nat} {o : Option Obj} {blk : Blk} {cur : Array Value} (h : Row o blk cur) : Row o (rnB g blk) cur := by
  rcases h with h | ⟨s, n, rfl, h1, h2, h3⟩ | ⟨ka, va, zk, vn, ents, h⟩
  · exact .inl h
  · exact .inr (.inl ⟨s, n, rfl, h1, h2, h3⟩)
  · exact .inr (.inr ⟨ka, va, zk, vn, ents, h.re rfl rfl fun r e => ⟨rnL g r, by simp only [rnB, e, rnL_append, rnL_scalars]⟩⟩)
theorem Row.unrn {g : Nat → Nat} {o : Option Obj} {blk : Blk} {cur : Array Value} (h : Row o (rnB g blk) cur) : Row o blk cur := by
  rcases h with h | ⟨s, n, hb, h1, h2, h3⟩ | ⟨ka, va, zk, vn, ents, h⟩
  · exact .inl h
  · refine .inr (.inl ⟨s, n, ?_, h1, h2, h3⟩)
    obtain ⟨ty, cs, full⟩ := blk
    simp only [rnB, Blk.mk.injEq] at hb
    obtain ⟨rfl, hcs, rfl⟩ := hb
    have : cs = [.v (.string s), .v (.int .i64 n)] := by
      match cs, hcs with
      | [d, e], hcs =>
        simp only [rnL, List.cons.injEq, and_true] at hcs
        obtain ⟨h1, h2⟩ := hcs
        have e1 : d = .v (.string s) := by cases d <;> simp_all [rnD]
        have e2 : e = .v (.int .i64 n) := by cases e <;> simp_all [rnD]
        rw [e1, e2]
      | [], hcs => simp [rnL] at hcs
      | [d], hcs => simp [rnL] at hcs
      | d :: e :: f :: r, hcs => simp [rnL] at hcs
    rw [this]
  · exact .inr (.inr ⟨ka, va, zk, vn, ents, h.re rfl rfl fun r e => rnL_unscalars g _ _ _ e⟩)
section
variable {ρ ρ' : Nat → Nat × Nat} {S : Nat → Prop} {w : World} {H H' : Heap} {g : Nat → Nat}
mutual
theorem Rd.rnN : ∀ (d : D) (u : Value), (∀ b ∈ namesD d, g b < H'.length ∧ ρ' (g b) = ρ b) → Rd (ctx ρ S w H) d u → Rd (ctx ρ' S w H') (rnD g d) u
  | .v x, u, hb, hr => by simp only [rnD, Rd] at hr ⊢; exact hr
  | .ro n xs, u, hb, hr => by simp only [rnD]; exact hr.moveS (fun _ h => h) (by simp only [Rd] at hr; simpa [Nameless] using hr.1)
  | .rp xs j, u, hb, hr => by simp only [rnD]; exact hr.moveS (fun _ h => h) (by simp only [Rd] at hr; simpa [Nameless] using hr.1)
  | .sl b off n (.exact c es), u, hb, hr => by
    have h1 := hb b (by simp [namesD])
    simp only [rnD, Rd] at hr ⊢
    rw [h1.2]; exact ⟨h1.1, hr.2⟩
  | .sl b off n (.toEnd es), u, hb, hr => by
    have h1 := hb b (by simp [namesD])
    simp only [rnD, Rd] at hr ⊢
    rw [h1.2]; exact ⟨h1.1, hr.2⟩
  | .ptr b off, u, hb, hr => by
    have h1 := hb b (by simp [namesD])
    simp only [rnD, Rd] at hr ⊢
    rw [h1.2]; exact ⟨h1.1, hr.2⟩
  | .agg xs, u, hb, hr => by
    simp only [rnD, Rd] at hr ⊢
    obtain ⟨us, e, hl⟩ := hr
    exact ⟨us, e, RdL.rnN xs _ (by simpa [namesD] using hb) hl⟩
  | .tup xs, u, hb, hr => by
    simp only [rnD, Rd] at hr ⊢
    obtain ⟨us, e, hl⟩ := hr
    exact ⟨us, e, RdT.rnN xs _ (by simpa [namesD] using hb) hl⟩
  | .ifc t d, u, hb, hr => by
    simp only [rnD, Rd] at hr ⊢
    obtain ⟨x, e, hx⟩ := hr
    exact ⟨x, e, Rd.rnN d x (by simpa [namesD] using hb) hx⟩
  | .fn f k caps, u, hb, hr => by
    simp only [rnD, Rd] at hr ⊢
    obtain ⟨fs, us, e, hk, hl⟩ := hr
    exact ⟨fs, us, e, hk, RdT.rnN caps _ (by simpa [namesD] using hb) hl⟩
theorem RdL.rnN : ∀ (ds : List D) (us : List Value), (∀ b ∈ namesD.namesA ds, g b < H'.length ∧ ρ' (g b) = ρ b) → RdL (ctx ρ S w H) ds us → RdL (ctx ρ' S w H') (rnL g ds) us
  | [], us, hb, hr => by simp only [rnL, RdL] at hr ⊢; exact hr
  | d :: ds, us, hb, hr => by
    simp only [rnL, RdL] at hr ⊢
    simp only [namesD.namesA, List.mem_append] at hb
    obtain ⟨u, r, e, ho, hd, hr⟩ := hr
    exact ⟨u, r, e, ho, Rd.rnN d u (fun b h => hb b (.inl h)) hd, RdL.rnN ds r (fun b h => hb b (.inr h)) hr⟩
theorem RdT.rnN : ∀ (ds : List D) (us : List Value), (∀ b ∈ namesD.namesA ds, g b < H'.length ∧ ρ' (g b) = ρ b) → RdT (ctx ρ S w H) ds us → RdT (ctx ρ' S w H') (rnL g ds) us
  | [], us, hb, hr => by simp only [rnL, RdT] at hr ⊢; exact hr
  | d :: ds, us, hb, hr => by
    simp only [rnL, RdT] at hr ⊢
    simp only [namesD.namesA, List.mem_append] at hb
    obtain ⟨u, r, e, hd, hr⟩ := hr
    exact ⟨u, r, e, Rd.rnN d u (fun b h => hb b (.inl h)) hd, RdT.rnN ds r (fun b h => hb b (.inr h)) hr⟩
end
end
def reachGo (H : Heap) : Nat → List Nat → List Nat → List Nat
  | 0, seen, _ => seen
  | _, seen, [] => seen
  | n + 1, seen, b :: todo => bif seen.contains b then reachGo H n seen todo else (match H[b]? with
    | some (some blk) => reachGo H n (b :: seen) (namesD.namesA blk.cs ++ todo)
    | _ => reachGo H n (b :: seen) todo)
def reach (H : Heap) (l : List Nat) : List Nat := reachGo H 1000 [] l
def plc (σ : List Nat) (b : Nat) : Nat := go σ 0
where go : List Nat → Nat → Nat
  | [], i => i
  | c :: r, i => bif Nat.beq c b then i else go r (i + 1)
theorem plc_go : ∀ (σ : List Nat) (b i : Nat), b ∈ σ → ∃ j, plc.go b σ i = i + j ∧ σ[j]? = some b
  | [], b, i, h => by cases h
  | c :: r, b, i, h => by
    simp only [plc.go]
    cases hc : Nat.beq c b with
    | true => exact ⟨0, rfl, by simp [Nat.eq_of_beq_eq_true hc]⟩
    | false =>
      have hne : b ≠ c := fun e => by rw [e, Nat.beq_refl] at hc; cases hc
      have hm : b ∈ r := (List.mem_cons.1 h).resolve_left hne
      obtain ⟨j, h1, h2⟩ := plc_go r b (i + 1) hm
      exact ⟨j + 1, by rw [show (bif false then i else plc.go b r (i + 1)) = plc.go b r (i + 1) from rfl, h1]; omega, by simpa using h2⟩
theorem plc_get {σ : List Nat} {b : Nat} (h : b ∈ σ) : σ[plc σ b]? = some b := by
  obtain ⟨j, h1, h2⟩ := plc_go σ b 0 h
  unfold plc
  rw [h1, Nat.zero_add]; exact h2
def nodupN : List Nat → Bool
  | [] => true
  | b :: r => !r.contains b && nodupN r
theorem nodupN_ok : ∀ l, nodupN l = true → l.Nodup
  | [], _ => List.nodup_nil
  | b :: r, h => by
    simp only [nodupN, Bool.and_eq_true, Bool.not_eq_true'] at h
    rw [List.nodup_cons]
    exact ⟨fun hm => (by have h1 := h.1; rw [List.contains_iff_mem.2 hm] at h1; cases h1), nodupN_ok r h.2⟩
def pickH (σ : List Nat) (H : Heap) : Heap := σ.map fun b => match H[b]? with
  | some (some blk) => some (rnB (plc σ) blk)
  | _ => none
def pickOk (σ : List Nat) (d : D) (H : Heap) : Bool := nodupN σ && ((namesD d).all (fun b => σ.contains b) && σ.all fun b => match H[b]? with
  | some (some blk) => (namesD.namesA blk.cs).all fun c => σ.contains c
  | _ => true)
def compact (d : D) (H : Heap) : D × Heap := bif pickOk (reach H (namesD d)) d H then (rnD (plc (reach H (namesD d))) d, pickH (reach H (namesD d)) H) else (d, H)
theorem fin_compact {ds : List D} {d : D} {H1 : Heap} : Fin ds [] d H1 (compact d H1).1 (compact d H1).2 := by
  unfold compact
  generalize reach H1 (namesD d) = σ
  cases hc : pickOk σ d H1 with
  | false => exact fin_same
  | true =>
    simp only [cond_true]
    unfold pickOk at hc
    simp only [Bool.and_eq_true, List.all_eq_true] at hc
    obtain ⟨h0, h1, h2⟩ := hc
    have h0 := nodupN_ok σ h0
    have hlen : (pickH σ H1).length = σ.length := by simp [pickH]
    intro ρ0 S0 w0 ρ S w u hS0 hle hS hr
    let ρ' : Nat → Nat × Nat := fun i => match σ[i]? with
      | some b => ρ b
      | none => (0, 0)
    have hρ : ∀ b, b ∈ σ → plc σ b < (pickH σ H1).length ∧ ρ' (plc σ b) = ρ b := fun b hb => by
      have hg := plc_get hb
      refine ⟨by rw [hlen]; exact (List.getElem?_eq_some_iff.1 hg).1, ?_⟩
      simp only [ρ', hg]
    have get : ∀ i blk, (pickH σ H1)[i]? = some (some blk) → ∃ b bl, σ[i]? = some b ∧ H1[b]? = some (some bl) ∧ blk = rnB (plc σ) bl ∧ ρ' i = ρ b ∧ ∀ c ∈ namesD.namesA bl.cs, c ∈ σ := fun i blk h => by
      simp only [pickH, List.getElem?_map, Option.map_eq_some_iff] at h
      obtain ⟨b, hb, h⟩ := h
      split at h
      · rename_i bl hbl
        injection h with h
        refine ⟨b, bl, hb, hbl, h.symm, by simp only [ρ', hb], fun c hcc => ?_⟩
        have := h2 b (List.mem_of_getElem? hb)
        rw [hbl] at this
        simp only [List.all_eq_true] at this
        exact List.contains_iff_mem.1 (this c hcc)
      · cases h
    have up : ∀ k, Live ρ' (pickH σ H1) k → Live ρ H1 k := fun k ⟨i, blk, hi, hz, e⟩ => by
      obtain ⟨b, bl, g1, g2, g3, g4, _⟩ := get i blk hi
      rw [g4] at hz e
      exact ⟨b, bl, g2, hz, e⟩
    refine ⟨ρ', S, ⟨fun k hk => ⟨(hS.sub k hk).1, fun hl => (hS.sub k hk).2 (up k hl)⟩, fun i blk hi hz => ?_, fun i blk hi hz => ?_, fun i j bi bj hi hj hz hz' e => ?_, hS.glob⟩, ?_, Rd.rnN d u (fun b hb => hρ b (List.contains_iff_mem.1 (h1 b hb))) hr⟩
    · obtain ⟨b, bl, g1, g2, rfl, g4, _⟩ := get i blk hi
      rw [g4] at hz
      have := hS.none b bl g2 hz
      simp only [rnB, this, rnL]
    · obtain ⟨b, bl, g1, g2, rfl, g4, g5⟩ := get i blk hi
      rw [g4] at hz ⊢
      obtain ⟨cur, hcur⟩ := hS.blk b bl g2 hz
      refine ⟨cur, hcur.heap.rn, hcur.size, ?_, fun hf => by rw [← hcur.full hf]; exact rnL_length _ _⟩
      simp only [rnB, rnL_length]
      exact RdL.rnN _ _ (fun c hc => hρ c (g5 c hc)) hcur.pre
    · obtain ⟨b, bl, g1, g2, _, g4, _⟩ := get i bi hi
      obtain ⟨c, cl, k1, k2, _, k4, _⟩ := get j bj hj
      rw [g4] at hz e; rw [k4] at hz' e
      have := hS.inj b c bl cl g2 k2 hz hz' e
      subst this
      exact (List.getElem?_inj (List.getElem?_eq_some_iff.1 g1).1 h0).1 (g1.trans k1.symm)
    · exact ⟨Nat.zero_le _, fun b hb => absurd hb (Nat.not_lt_zero _), hle.S, hle.keep, hle.new, fun k hk => ⟨(hle.fix k hk).1, fun hl => (hle.fix k hk).2 (up k hl)⟩, hle.heap, hle.size, hle.os, hle.tape, hle.output⟩
end Go.VD
end
