import Derived.Test.YtfleadelfklenaaDoorZBc11
import Derived.Test.YtfleadelfklenaaDoorZBc5
import Derived.Test.YtfleadelfklenaaDoorZBc16
section
namespace Go.VD
set_option linter.unusedVariables false
set_option linter.unusedSimpArgs false
def setU : List (Nat × Option Blk) → Heap → Heap
  | [], H => H
  | (b, y) :: r, H => setU r (H.set b y)
theorem setU_length : ∀ (l : List (Nat × Option Blk)) (H : Heap), (setU l H).length = H.length
  | [], H => rfl
  | (b, y) :: r, H => by simp [setU, setU_length r]
theorem setU_get : ∀ (l : List (Nat × Option Blk)) (H : Heap) (b : Nat), (b ∉ l.map Prod.fst → (setU l H)[b]? = H[b]?) ∧ (∀ H1 : Heap, H1.length = H.length → b ∈ l.map Prod.fst → (setU l H1)[b]? = (setU l H)[b]?)
  | [], H, b => ⟨fun _ => rfl, fun H1 _ h => by simp at h⟩
  | (c, y) :: r, H, b => by
    refine ⟨fun h => ?_, fun H1 hl h => ?_⟩
    · simp only [List.map_cons, List.mem_cons, not_or] at h
      simp only [setU]
      rw [(setU_get r _ b).1 h.2, List.getElem?_set_ne (fun e => h.1 e.symm)]
    · simp only [setU]
      by_cases hr : b ∈ r.map Prod.fst
      · exact (setU_get r (H.set c y) b).2 (H1.set c y) (by simp [hl]) hr
      · have hb : b = c := by simpa [hr] using h
        subst hb
        rw [(setU_get r _ b).1 hr, (setU_get r _ b).1 hr]
        simp only [List.getElem?_set, hl, if_true]
abbrev EntF := List D → Heap → Option (D × List (Nat × Option Blk) × List Nat × Heap × Prop)
def EntFOk (P : Program) (g : FuncId) (e : EntF) : Prop := ∀ ds H d ups rs L p, e ds H = some (d, ups, rs, L, p) → p →
  ∀ H1 : Heap, (∀ b, b ∈ rs ∨ b ∈ ups.map Prod.fst → H1[b]? = H[b]?) → H1.length = H.length → CallJ P g ds H1 d (setU ups H1 ++ L)
def ltAll (n : Nat) : List Nat → Bool
  | [] => true
  | b :: r => Nat.ble (b + 1) n && ltAll n r
def notIn (b : Nat) : List Nat → Bool
  | [] => true
  | c :: r => !(Nat.beq b c) && notIn b r
def apart (ws : List Nat) : List Nat → Bool
  | [] => true
  | b :: r => notIn b ws && apart ws r
theorem ltAll_ok {n : Nat} : ∀ {l : List Nat}, ltAll n l = true → ∀ b ∈ l, b < n
  | [], _, b, hb => by simp at hb
  | c :: r, h, b, hb => by
    simp only [ltAll, Bool.and_eq_true] at h
    rcases List.mem_cons.1 hb with rfl | hb
    · exact Nat.le_of_ble_eq_true h.1
    · exact ltAll_ok h.2 b hb
theorem notIn_ok {b : Nat} : ∀ {l : List Nat}, notIn b l = true → b ∉ l
  | [], _ => by simp
  | c :: r, h => by
    simp only [notIn, Bool.and_eq_true, Bool.not_eq_true'] at h
    intro hm
    rcases List.mem_cons.1 hm with rfl | hm
    · have := h.1; simp at this
    · exact notIn_ok h.2 hm
theorem apart_ok {ws : List Nat} : ∀ {l : List Nat}, apart ws l = true → ∀ b ∈ l, b ∉ ws
  | [], _, b, hb => by simp at hb
  | c :: r, h, b, hb => by
    simp only [apart, Bool.and_eq_true] at h
    rcases List.mem_cons.1 hb with rfl | hb
    · exact notIn_ok h.1
    · exact apart_ok h.2 b hb
def fpOk (n : Nat) (ws rs : List Nat) : Bool := ltAll n (rs ++ ws) && apart ws rs
def domU : List (Nat × Option Blk) → List Nat
  | [] => []
  | (b, _) :: r => b :: domU r
theorem domU_eq : ∀ l, domU l = l.map Prod.fst
  | [] => rfl
  | (b, _) :: r => by simp [domU, domU_eq r]
def isNilH : Heap → Bool
  | [] => true
  | _ => false
def addF (f : FuncId) (e : EntF) (r : CallO) : CallO := fun g ds H K => bif Nat.beq g f then (match e ds H with
  | some (d, ups, rs, L, p) => some ((fpOk H.length (domU ups) rs = true ∧ p) ∧ K d (setU ups H ++ L) (bif isNilH L then .rw rs (domU ups) else .fp rs (domU ups) H.length))
  | none => none) else r g ds H K
theorem addF_ok {P : Program} {f : FuncId} {e : EntF} {r : CallO} (he : EntFOk P f e) (hr : CallOK P r) : CallOK P (addF f e r) := by
  intro g ds H K p h hp
  unfold addF at h
  cases hg : Nat.beq g f with
  | false => rw [hg] at h; exact hr g ds H K p h hp
  | true =>
    rw [hg] at h
    have hgf : g = f := Nat.eq_of_beq_eq_true hg
    subst hgf
    simp only [cond_true] at h
    split at h
    · rename_i d ups rs L q hq
      rw [domU_eq] at h
      injection h with h; subst h
      have hj := he _ _ _ _ _ _ _ hq hp.1.2
      have hfp := hp.1.1
      simp only [fpOk, Bool.and_eq_true] at hfp
      obtain ⟨hlt, hdis⟩ := hfp
      have hlt1 : ∀ b, b ∈ rs ++ ups.map Prod.fst → b < H.length := ltAll_ok hlt
      have hdis1 : ∀ b ∈ rs, b ∉ ups.map Prod.fst := apart_ok hdis
      have huni : ∀ H1 : Heap, (∀ b, b ∈ rs ++ ups.map Prod.fst → H1[b]? = H[b]?) → H1.length = H.length → un (rs ++ ups.map Prod.fst) H1 (setU ups H ++ L) = setU ups H1 ++ L := fun H1 h1 h2 => List.ext_getElem? fun b => by
        rw [un_get (by simp [setU_length, h2])]
        rcases Nat.lt_or_ge b H.length with hb | hb
        · rw [List.getElem?_append_left (by rw [setU_length]; exact hb), List.getElem?_append_left (by rw [setU_length, h2]; exact hb)]
          split
          · rename_i hc
            have hc : b ∈ rs ++ ups.map Prod.fst := hc.resolve_right (by omega)
            by_cases hw : b ∈ ups.map Prod.fst
            · exact ((setU_get ups H b).2 H1 h2 hw).symm
            · rw [(setU_get ups H b).1 hw, (setU_get ups H1 b).1 hw, h1 b hc]
          · rename_i hc
            simp only [List.mem_append, not_or] at hc
            rw [(setU_get ups H1 b).1 hc.1.2]
        · rw [if_pos (.inr (by omega)), List.getElem?_append_right (by rw [setU_length]; exact hb), List.getElem?_append_right (by rw [setU_length]; omega), setU_length, setU_length, h2]
      have hfoot : Foot H (setU ups H ++ L) (rs ++ ups.map Prod.fst) rs (ups.map Prod.fst) := ⟨fun b hb => List.mem_append.1 hb, fun b hb => by
        rw [List.getElem?_append_left (by rw [setU_length]; exact hlt1 b (by simp [hb])), (setU_get ups H b).1 (hdis1 b hb)], fun b hb => by simp [hb], fun b hb => by simp [hb]⟩
      have hrun : ∀ H1 : Heap, (∀ b, b ∈ rs ++ ups.map Prod.fst → H1[b]? = H[b]?) → H1.length = H.length → CallJ P g ds H1 d (un (rs ++ ups.map Prod.fst) H1 (setU ups H ++ L)) := fun H1 h1 h2 => by
        rw [huni H1 h1 h2]
        exact hj H1 (fun b hb => h1 b (List.mem_append.2 hb)) h2
      have hk := hp.2
      rw [← huni H (fun _ _ => rfl) rfl] at hk
      cases L with
      | nil =>
        simp only [isNilH, cond_true] at hk
        exact .sames d (rs ++ ups.map Prod.fst) rs (ups.map Prod.fst) (setU ups H ++ []) (by simp [setU_length]) hfoot hrun hk
      | cons x L =>
        simp only [isNilH, cond_false] at hk
        exact .parts d (rs ++ ups.map Prod.fst) rs (ups.map Prod.fst) (setU ups H ++ x :: L) (by simp [setU_length]) hfoot hrun hk
    · cases h
end Go.VD
end
section
namespace Go.Proofs.YtfleadelfklenaaDoor
open Go.VD
set_option linter.unusedVariables false
set_option linter.unusedSimpArgs false
set_option maxRecDepth 100000
structure El where
  n : ByteArray
  k : ByteArray
  i : Int
def elD (e : El) : List D := [d_s e.n, d_s e.k, d_i e.i]
def elsD (l : List El) : List D := l.flatMap elD
theorem elsD_app (a b : List El) : elsD (a ++ b) = elsD a ++ elsD b := by simp [elsD]
theorem elsD_nl : ∀ l : List El, NamelessL (elsD l)
  | [] => by simp [elsD, NamelessL]
  | x :: r => by rw [show elsD (x :: r) = elD x ++ elsD r by simp [elsD]]; exact NamelessL.append (by simp [elD, NamelessL, Nameless]) (elsD_nl r)
def hasEl (l : List El) (s : ByteArray) : Bool := l.any fun e => sE s e.n
theorem mEnts_els (l : List El) : mEnts 3 (elsD l) = l.map elD := mEnts_flatMap (by omega) fun _ _ => rfl
theorem keyEq_el (z : ByteArray) (s : ByteArray) (e : El) : keyEq [.string z] [d_s s] (elD e) = sE s e.n := by
  simp only [keyEq, elD, cellStr, Bool.and_true, beq_sE]
theorem mHas_els (z : ByteArray) (l : List El) (s : ByteArray) : mHas [.string z] 2 [d_s s] (elsD l) = hasEl l s := by
  unfold mHas hasEl
  rw [show ([Value.string z].length + 2) = 3 from rfl, mEnts_els, List.any_map]
  congr 1
  funext e
  simp only [Function.comp_apply, keyEq_el]
theorem mVal_els (z y : ByteArray) (l : List El) (s : ByteArray) : ∃ k i, mVal [.string z] 2 [.string y, .int .i64 0] [d_s s] (elsD l) = [d_s k, d_i i] := by
  unfold mVal mGet
  rw [show ([Value.string z].length + 2) = 3 from rfl, mEnts_els]
  cases h : (l.map elD).find? (fun e => keyEq [.string z] [d_s s] e) with
  | none => exact ⟨y, 0, rfl⟩
  | some e =>
    obtain ⟨x, _, rfl⟩ := List.mem_map.1 (List.mem_of_find?_eq_some h)
    exact ⟨x.k, x.i, rfl⟩
theorem chunks_els (l : List El) : chunks 3 (elsD l).length (elsD l) = l.map elD := mEnts_els l
theorem any_els (l : List El) (s : ByteArray) : ((l.map elD).any fun e => keyEq [Value.string ByteArray.empty] [D.v (Value.string s)] e) = hasEl l s := by
  have := mHas_els ByteArray.empty l s
  unfold mHas at this
  rw [show ([Value.string ByteArray.empty].length + 2) = 3 from rfl, mEnts_els] at this
  exact this
theorem find_els (l : List El) (s : ByteArray) : ∃ k i, ((Option.map (fun x => List.drop [Value.string ByteArray.empty].length x) (List.find? (fun e => keyEq [Value.string ByteArray.empty] [D.v (Value.string s)] e) (l.map elD))).getD [D.v (Value.string ByteArray.empty), D.v (Value.int IntKind.i64 0)]) = [d_s k, d_i i] := by
  have := mVal_els ByteArray.empty ByteArray.empty l s
  unfold mVal mGet at this
  rw [show ([Value.string ByteArray.empty].length + 2) = 3 from rfl, mEnts_els] at this
  exact this
structure Dg where
  nm : ByteArray
  bu : List ByteArray
  li : List Lin
  so : List Src
  ba : List Bay
  es : List El
def d_dg (g : Dg) (b1 b2 b3 b4 : Nat) : Option Blk := some ⟨68, [.v (.string g.nm), .sl b1 0 g.bu.length (.toEnd 1), .sl b2 0 g.li.length (.toEnd 5), .sl b3 0 g.so.length (.toEnd 6), .sl b4 0 g.ba.length (.toEnd 12), .ifc itTy (.ptr 5 0)], true⟩
def d_mp (l : List El) : Option Blk := some ⟨itTy, .v (.map none) :: .v (.bool false) :: .v (.bool true) :: .v (.int .i64 1) :: .v (.int .i64 2) :: .v (.string ⟨#[]⟩) :: elsD l, true⟩
def d_b1 (l : List ByteArray) (f : Bool) : Option Blk := some ⟨9, busesD l, f⟩
def d_b2 (l : List Lin) (f : Bool) : Option Blk := some ⟨57, linesD l, f⟩
def d_b3 (l : List Src) (f : Bool) : Option Blk := some ⟨60, srcsD l, f⟩
def d_b4 (l : List Bay) (f : Bool) : Option Blk := some ⟨52, baysD l, f⟩
def entE (l : List El) (s : ByteArray) (n limit : Int) : Int := bif n == limit then 3 else (bif nameS s then (bif hasEl l s then 8 else 0) else 7)
def entS (l : List El) (k s : ByteArray) (n limit : Int) : List El := bif entE l s n limit == 0 then l ++ [⟨s, k, n⟩] else l
theorem enter_call (g : Dg) (f1 f2 f3 f4 : Bool) (k s : ByteArray) (n limit : Int) (hpre : s.size ≤ maxLen) : CallJ Tryd.prog 56 [.ptr 0 0, .v (.string k), .v (.string s), .v (.int .i64 n), .v (.int .i64 limit)] ([d_dg g 1 2 3 4, d_b1 g.bu f1, d_b2 g.li f2, d_b3 g.so f3, d_b4 g.ba f4, d_mp g.es]) (.v (.int .i64 (entE g.es s n limit))) ([d_dg g 1 2 3 4, d_b1 g.bu f1, d_b2 g.li f2, d_b3 g.so f3, d_b4 g.ba f4, d_mp (entS g.es k s n limit)]) := by
  refine callJ_of_vck (k := 6) (call := (addPure 32 ent_name noCalls)) (lp := fun _ => none) (N := 10) T_ok mixed (addPure_ok ent_name_ok noCalls_ok) Tryd.func56 rfl (by decide) (by kernel_rfl) (by kernel_rfl) rfl (LpAllK.none _) ?_
  refine of_eq (B := letI z27 := (D.v (Value.map (Option.none))); letI z29 := (D.v (Value.bool Bool.false)); letI z30 := (D.v (Value.bool Bool.true)); letI z23 := (D.v (Value.int IntKind.i64 (1 : Int))); letI z24 := (D.v (Value.int IntKind.i64 (2 : Int))); letI z0 := (List.cons z27 (List.cons z29 (List.cons z30 (List.cons z23 (List.cons z24 (List.cons (D.v (Value.string (ByteArray.mk (Array.mk ([] : List UInt8))))) (elsD (Dg.es g)))))))); letI z25 := (1000000007 : Nat); letI z1 := (Option.some (Blk.mk (68 : Nat) [(D.v (Value.string (Dg.nm g))), (D.sl (1 : Nat) (0 : Nat) (List.length (Dg.bu g)) (Cap.toEnd (1 : Nat))), (D.sl (2 : Nat) (0 : Nat) (List.length (Dg.li g)) (Cap.toEnd (5 : Nat))), (D.sl (3 : Nat) (0 : Nat) (List.length (Dg.so g)) (Cap.toEnd (6 : Nat))), (D.sl (4 : Nat) (0 : Nat) (List.length (Dg.ba g)) (Cap.toEnd (12 : Nat))), (D.ifc z25 (D.ptr (5 : Nat) (0 : Nat)))] Bool.true)); letI z5 := Value.string ByteArray.empty; letI z22 := (TI.mk TD.str (1 : Nat) (16 : Nat) [z5]); letI z2 := (TI.zero z22); letI z31 := (List.drop (6 : Nat) z0); letI z3 := (chunks (3 : Nat) (List.length z31) z31); letI z26 := (Value.int IntKind.i64 (0 : Int)); letI z4 := (TI.mk (TD.struct [(Prod.mk (0 : Nat) (9 : TypeId)), (Prod.mk (1 : Nat) (3 : TypeId))]) (2 : Nat) (24 : Nat) [z5, z26]); letI z6 := (D.v z26); letI z7 := (D.v (Value.string s)); letI z8 := (D.v (Value.int IntKind.i64 (entE (Dg.es g) s n limit))); letI z9 := (Option.some (Blk.mk (57 : Nat) (linesD (Dg.li g)) f2)); letI z10 := (Option.some (Blk.mk (9 : Nat) (busesD (Dg.bu g)) f1)); letI z11 := (Option.some (Blk.mk (60 : Nat) (srcsD (Dg.so g)) f3)); letI z12 := (Option.some (Blk.mk (52 : Nat) (baysD (Dg.ba g)) f4)); letI z13 := (d_dg g (1 : Nat) (2 : Nat) (3 : Nat) (4 : Nat)); letI z14 := (Option.some (Blk.mk z25 z0 Bool.true)); letI z15 := (d_mp (entS (Dg.es g) k s n limit)); letI z16 := List.length z2; letI z17 := (List.drop (List.length (hdrOf z22 z4)) z0); letI z18 := (d_b1 (Dg.bu g) f1); letI z19 := (d_b2 (Dg.li g) f2); letI z20 := (d_b3 (Dg.so g) f3); letI z21 := (d_b4 (Dg.ba g) f4); letI z28 := (D.v (Value.int IntKind.i64 n)); letI z32 := ((5 : Nat) < (6 : Nat)); letI z33 := ((2 : Nat) = (2 : Nat)); letI z34 := (D.v (Value.string k)); letI z35 := ((IsStr z7) ∧ True); (True ∧ (True ∧ (True ∧ (True ∧ (pcond (n == limit) (True ∧ (True ∧ (∃ (kp : (List KE)), (viewFin (6 : Nat) kp [z1, z10, z9, z11, z12, z14] (D.v (Value.int IntKind.i64 (3 : Int))) z8 [z13, z18, z19, z20, z21, z15])))) (True ∧ (((ByteArray.size s) ≤ (9223372036854775807 : Nat)) ∧ (True ∧ (pcond (!(nameS s)) (True ∧ (True ∧ (∃ (kp : (List KE)), (viewFin (6 : Nat) kp [z1, z10, z9, z11, z12, z14] (D.v (Value.int IntKind.i64 (7 : Int))) z8 [z13, z18, z19, z20, z21, z15])))) (True ∧ (True ∧ (True ∧ (z32 ∧ (True ∧ ((z35 ∧ ((IsStr (List.getD (Option.getD (Option.map (fun (x : (List D)) => (List.drop z16 x)) (List.find? (fun (e : (List D)) => (keyEq z2 [z7] e)) z3)) [(D.v z5), z6]) (0 : Nat) (Inhabited.default))) ∧ ((IsInt IntKind.i64 (List.getD (Option.getD (Option.map (fun (x : (List D)) => (List.drop z16 x)) (List.find? (fun (e : (List D)) => (keyEq z2 [z7] e)) z3)) [(D.v z5), z6]) (1 : Nat) (Inhabited.default))) ∧ True))) ∧ (True ∧ (True ∧ (True ∧ (True ∧ ((z33 ∧ ((2 : Nat) ≤ (2 : Nat))) ∧ (True ∧ (True ∧ (pcond (List.any z3 (fun (e : (List D)) => (keyEq z2 [z7] e))) (True ∧ (True ∧ (∃ (kp : (List KE)), (viewFin (6 : Nat) kp [z1, z10, z9, z11, z12, z14, (Option.some (Blk.mk (127 : Nat) [(D.v (Value.string (cellStr (List.getD (Option.getD (Option.map (fun (x : (List D)) => (List.drop z16 x)) (List.find? (fun (e : (List D)) => (keyEq z2 [z7] e)) z3)) [(D.v z5), z6]) (0 : Nat) (Inhabited.default))))), (D.v (Value.int IntKind.i64 (cellInt (List.getD (Option.getD (Option.map (fun (x : (List D)) => (List.drop z16 x)) (List.find? (fun (e : (List D)) => (keyEq z2 [z7] e)) z3)) [(D.v z5), z6]) (1 : Nat) (Inhabited.default)))))] Bool.true))] (D.v (Value.int IntKind.i64 (8 : Int))) z8 [z13, z18, z19, z20, z21, z15])))) (True ∧ (True ∧ (True ∧ (z32 ∧ (True ∧ (True ∧ (True ∧ (True ∧ ((z35 ∧ z33) ∧ (True ∧ (True ∧ (∃ (kp : (List KE)), (viewFin (6 : Nat) kp [z1, z10, z9, z11, z12, (Option.some (Blk.mk z25 (List.cons z27 (List.cons z29 (List.cons z30 (List.cons z23 (List.cons z24 (List.cons (D.v z5) (List.append ([] : List D) (cond.match_1 (fun (c : Bool) => (List D)) (List.any z3 (fun (e : (List D)) => (keyEq z2 [z7] e))) (fun (_ : Unit) => (List.flatMap (fun (e : (List D)) => (cond (keyEq z2 [z7] e) ((List.take z16 e) ++ [z34, z28]) e)) (mEnts (z16 + (TI.size z4)) z17))) (fun (_ : Unit) => (z17 ++ ([z7] ++ [z34, z28]))))))))))) Bool.true)), (Option.some (Blk.mk (127 : Nat) [(D.v (Value.string (cellStr (List.getD (Option.getD (Option.map (fun (x : (List D)) => (List.drop z16 x)) (List.find? (fun (e : (List D)) => (keyEq z2 [z7] e)) z3)) [(D.v z5), z6]) (0 : Nat) (Inhabited.default))))), (D.v (Value.int IntKind.i64 (cellInt (List.getD (Option.getD (Option.map (fun (x : (List D)) => (List.drop z16 x)) (List.find? (fun (e : (List D)) => (keyEq z2 [z7] e)) z3)) [(D.v z5), z6]) (1 : Nat) (Inhabited.default)))))] Bool.true))] z6 z8 [z13, z18, z19, z20, z21, z15]))))))))))))))))))))))))))))))))))))) (by kernel_rfl) ?_
  obtain ⟨k', i', hf⟩ := find_els g.es s
  simp only [true_and, and_true, and_self, IsInt_lit, IsBool_lit, IsStr_lit, IsSl_lit, cellN_lit, cellL_lit, Bool.not_eq_true', Bool.not_eq_false', Bool.not_true, Bool.not_false, Int.reduceLE, Int.reduceLT, Int.reduceNeg, Nat.le_refl, Int.le_refl, Nat.reduceLT, Nat.reduceLeDiff, Nat.reduceEqDiff, D.v.injEq, D.tup.injEq, D.agg.injEq, D.ro.injEq, List.cons.injEq, Value.int.injEq, Value.bool.injEq, pcond_true, pcond_false, NamelessL, Nameless, Nat.reduceMul, Nat.reduceAdd, Nat.zero_add, Int.toNat_natCast, List.drop_succ_cons, List.drop_zero, chunks_els, any_els, hf, List.getD_cons_zero, List.getD_cons_succ, cellStr_lit, IsStr_lit, cellInt_lit, IsInt_lit, true_and, and_true]
  unfold entS entE
  have hmp : ∀ l : List El, NamelessL (D.v (.map none) :: D.v (.bool false) :: D.v (.bool true) :: D.v (.int .i64 1) :: D.v (.int .i64 2) :: D.v (.string ⟨#[]⟩) :: elsD l) := fun l => by
    simp only [NamelessL, Nameless, true_and]; exact elsD_nl l
  refine pcond_intro (fun h => ?_) (fun h => ⟨hpre, pcond_intro (fun h1 => ?_) (fun h1 => pcond_intro (fun h2 => ?_) (fun h2 => ?_))⟩)
  · rw [h]
    exact ⟨[.sam 0, .old 1, .old 2, .old 3, .old 4, .old 5], rfl, ⟨⟨rfl, rfl⟩, ⟨rfl, busesD_nl _⟩, ⟨rfl, linesD_nl _⟩, ⟨rfl, srcsD_nl _⟩, ⟨rfl, baysD_nl _⟩, ⟨rfl, hmp _⟩, rfl⟩, ⟨trivial, rfl⟩⟩
  · rw [Bool.not_eq_true'] at h1
    rw [h, h1]
    exact ⟨[.sam 0, .old 1, .old 2, .old 3, .old 4, .old 5], rfl, ⟨⟨rfl, rfl⟩, ⟨rfl, busesD_nl _⟩, ⟨rfl, linesD_nl _⟩, ⟨rfl, srcsD_nl _⟩, ⟨rfl, baysD_nl _⟩, ⟨rfl, hmp _⟩, rfl⟩, ⟨trivial, rfl⟩⟩
  · rw [Bool.not_eq_false'] at h1
    rw [h, h1, h2]
    exact ⟨[.sam 0, .old 1, .old 2, .old 3, .old 4, .old 5], rfl, ⟨⟨rfl, rfl⟩, ⟨rfl, busesD_nl _⟩, ⟨rfl, linesD_nl _⟩, ⟨rfl, srcsD_nl _⟩, ⟨rfl, baysD_nl _⟩, ⟨rfl, hmp _⟩, rfl⟩, ⟨trivial, rfl⟩⟩
  · rw [Bool.not_eq_false'] at h1
    rw [h, h1, h2]
    have hN := hmp (g.es ++ [⟨s, k, n⟩])
    rw [elsD_app] at hN
    refine ⟨[.sam 0, .old 1, .old 2, .old 3, .old 4, .old 5], rfl, ⟨⟨rfl, rfl⟩, ⟨rfl, busesD_nl _⟩, ⟨rfl, linesD_nl _⟩, ⟨rfl, srcsD_nl _⟩, ⟨rfl, baysD_nl _⟩, ⟨?_, hN⟩, rfl⟩, ⟨trivial, rfl⟩⟩
    show d_mp (g.es ++ [⟨s, k, n⟩]) = _
    unfold d_mp
    rw [elsD_app]; rfl
end Go.Proofs.YtfleadelfklenaaDoor
end
section
namespace Go.Proofs.YtfleadelfklenaaDoor
open Go.VD
set_option linter.unusedVariables false
set_option linter.unusedSimpArgs false
set_option maxRecDepth 100000
mutual
theorem rnD_nl (g : Nat → Nat) : ∀ d, Nameless d → rnD g d = d
  | .v _, _ => rfl
  | .ro _ _, _ => rfl
  | .rp _ _, _ => rfl
  | .sl .., h => by simp [Nameless] at h
  | .ptr .., h => by simp [Nameless] at h
  | .agg xs, h => by simp only [Nameless] at h; simp only [rnD, rnL_nl g xs h]
  | .tup xs, h => by simp only [Nameless] at h; simp only [rnD, rnL_nl g xs h]
  | .ifc t d, h => by simp only [Nameless] at h; simp only [rnD, rnD_nl g d h]
  | .fn f k caps, h => by simp only [Nameless] at h; simp only [rnD, rnL_nl g caps h]
theorem rnL_nl (g : Nat → Nat) : ∀ ds, NamelessL ds → rnL g ds = ds
  | [], _ => rfl
  | d :: ds, h => by simp only [NamelessL] at h; simp only [rnL, rnD_nl g d h.1, rnL_nl g ds h.2]
end
mutual
theorem names_nl : ∀ d, Nameless d → namesD d = []
  | .v _, _ => rfl
  | .ro _ _, _ => rfl
  | .rp _ _, _ => rfl
  | .sl .., h => by simp [Nameless] at h
  | .ptr .., h => by simp [Nameless] at h
  | .agg xs, h => by simp only [Nameless] at h; simp only [namesD, namesL_nl xs h]
  | .tup xs, h => by simp only [Nameless] at h; simp only [namesD, namesL_nl xs h]
  | .ifc t d, h => by simp only [Nameless] at h; simp only [namesD, names_nl d h]
  | .fn f k caps, h => by simp only [Nameless] at h; simp only [namesD, namesL_nl caps h]
theorem namesL_nl : ∀ ds, NamelessL ds → namesD.namesA ds = []
  | [], _ => rfl
  | d :: ds, h => by simp only [NamelessL] at h; simp only [namesD.namesA, names_nl d h.1, namesL_nl ds h.2, List.append_nil]
end
def unEls : List D → List El
  | .v (.string n) :: .v (.string k) :: .v (.int _ i) :: r => ⟨n, k, i⟩ :: unEls r
  | _ => []
theorem unEls_D : ∀ l : List El, unEls (elsD l) = l
  | [] => rfl
  | x :: r => by rw [show elsD (x :: r) = elD x ++ elsD r by simp [elsD]]; simp only [elD, List.cons_append, List.nil_append, unEls, unEls_D r]
def d_ndB : List Nat → Bool
  | [] => true
  | x :: r => r.all (fun y => !Nat.beq x y) && d_ndB r
theorem ndB_ok : ∀ {l : List Nat}, d_ndB l = true → l.Nodup
  | [], _ => List.nodup_nil
  | x :: r, h => by
    simp only [d_ndB, Bool.and_eq_true, List.all_eq_true] at h
    refine List.nodup_cons.2 ⟨fun hm => ?_, ndB_ok h.2⟩
    have := h.1 x hm
    simp at this
def mpD (l : List El) : List D := .v (.map none) :: .v (.bool false) :: .v (.bool true) :: .v (.int .i64 1) :: .v (.int .i64 2) :: .v (.string ⟨#[]⟩) :: elsD l
theorem mpD_nl (l : List El) : NamelessL (mpD l) := by
  unfold mpD; simp only [NamelessL, Nameless, true_and]; exact elsD_nl l
def EkOk (cm : List D) : Prop := cm = mpD (unEls (cm.drop 6))
theorem EkOk_lit (l : List El) : EkOk (.v (.map none) :: .v (.bool false) :: .v (.bool true) :: .v (.int .i64 1) :: .v (.int .i64 2) :: .v (.string ⟨⟨[]⟩⟩) :: elsD l) = True := by
  unfold EkOk; rw [show List.drop 6 (D.v (.map none) :: .v (.bool false) :: .v (.bool true) :: .v (.int .i64 1) :: .v (.int .i64 2) :: .v (.string ⟨⟨[]⟩⟩) :: elsD l) = elsD l from rfl, unEls_D]
  exact eq_true rfl
def d_dgm (nm : ByteArray) (b1 n1 b2 n2 b3 n3 b4 n4 m : Nat) : Option Blk := some ⟨68, [.v (.string nm), .sl b1 0 n1 (.toEnd 1), .sl b2 0 n2 (.toEnd 5), .sl b3 0 n3 (.toEnd 6), .sl b4 0 n4 (.toEnd 12), .ifc itTy (.ptr m 0)], true⟩
structure DgR where
  g : Dg
  b1 : Nat
  b2 : Nat
  b3 : Nat
  b4 : Nat
  m : Nat
  f1 : Bool
  f2 : Bool
  f3 : Bool
  f4 : Bool
  p : Prop
def WkOk (n : Nat) (k : Nat) (c c2 : List D) : Prop := n = k ∧ c = c2
def d_dgAt (H : Heap) (b : Nat) : Option DgR := match blkAt H b with
  | some ⟨ty, [.v (.string nm), .sl b1 0 n1 (.toEnd 1), .sl b2 0 n2 (.toEnd 5), .sl b3 0 n3 (.toEnd 6), .sl b4 0 n4 (.toEnd 12), .ifc t (.ptr m 0)], true⟩ =>
    match blkAt H b1, blkAt H b2, blkAt H b3, blkAt H b4, blkRaw H m with
    | some ⟨t1, c1, f1⟩, some ⟨t2, c2, f2⟩, some ⟨t3, c3, f3⟩, some ⟨t4, c4, f4⟩, some ⟨tm, cm, true⟩ =>
      some ⟨⟨nm, unBus c1, unLin c2, unSrc c3, unBay c4, unEls (cm.drop 6)⟩, b1, b2, b3, b4, m, f1, f2, f3, f4,
        (((ty = 68 ∧ t = itTy ∧ tm = itTy) ∧ (t1 = 9 ∧ t2 = 57 ∧ t3 = 60 ∧ t4 = 52)) ∧ d_ndB [b, b1, b2, b3, b4, m] = true) ∧
        WkOk n1 (unBus c1).length c1 (busesD (unBus c1)) ∧ WkOk n2 (unLin c2).length c2 (linesD (unLin c2)) ∧ WkOk n3 (unSrc c3).length c3 (srcsD (unSrc c3)) ∧ WkOk n4 (unBay c4).length c4 (baysD (unBay c4)) ∧ EkOk cm⟩
    | _, _, _, _, _ => none
  | _ => none
theorem Wk_refl (n : Nat) (c : List D) : WkOk n n c c = True := by simp [WkOk]
def dgσ (r : DgR) (b : Nat) : List Nat := [b, r.b1, r.b2, r.b3, r.b4, r.m]
def dgH (r : DgR) : Heap := [d_dg r.g 1 2 3 4, d_b1 r.g.bu r.f1, d_b2 r.g.li r.f2, d_b3 r.g.so r.f3, d_b4 r.g.ba r.f4, d_mp r.g.es]
theorem dgAt_spec {H : Heap} {b : Nat} {r : DgR} (h : d_dgAt H b = some r) (hp : r.p) :
    (dgσ r b).Nodup ∧ H[b]? = some (d_dgm r.g.nm r.b1 r.g.bu.length r.b2 r.g.li.length r.b3 r.g.so.length r.b4 r.g.ba.length r.m) ∧ H[r.b1]? = some (d_b1 r.g.bu r.f1) ∧ H[r.b2]? = some (d_b2 r.g.li r.f2) ∧ H[r.b3]? = some (d_b3 r.g.so r.f3) ∧ H[r.b4]? = some (d_b4 r.g.ba r.f4) ∧ H[r.m]? = some (d_mp r.g.es) := by
  unfold d_dgAt at h
  split at h
  · rename_i hb
    split at h
    · rename_i h1 h2 h3 h4 hm
      injection h with h
      subst h
      obtain ⟨⟨⟨⟨rfl, rfl, rfl⟩, rfl, rfl, rfl, rfl⟩, hn⟩, ⟨e1, e1'⟩, ⟨e2, e2'⟩, ⟨e3, e3'⟩, ⟨e4, e4'⟩, em⟩ := hp
      refine ⟨ndB_ok hn, ?_, ?_, ?_, ?_, ?_, ?_⟩
      · simp only [d_dgm]; rw [← e1, ← e2, ← e3, ← e4]; exact blkAt_some hb
      · simp only [d_b1]; rw [← e1']; exact blkAt_some h1
      · simp only [d_b2]; rw [← e2']; exact blkAt_some h2
      · simp only [d_b3]; rw [← e3']; exact blkAt_some h3
      · simp only [d_b4]; rw [← e4']; exact blkAt_some h4
      · rw [show ∀ l, d_mp l = some ⟨itTy, mpD l, true⟩ from fun _ => rfl]; simp only; rw [← show _ = mpD _ from em]; exact blkRaw_some hm
    · cases h
  · cases h
theorem dg_frameA {H H1 : Heap} {b : Nat} {r : DgR} (h : d_dgAt H b = some r) (hp : r.p) (heq : ∀ c ∈ dgσ r b, H1[c]? = H[c]?) {f : FuncId} {ds : List D} {d : D} {H' : Heap} (hn : ∀ c ∈ namesD.namesA ds, c < 6) (hd : Nameless d)
    (hj : CallJ Tryd.prog f ds (dgH r) d H') : CallJ Tryd.prog f (rnL (gOf (dgσ r b) H1.length) ds) H1 d (frH (dgσ r b) H1 H') := by
  obtain ⟨hnd, a0, a1, a2, a3, a4, a5⟩ := dgAt_spec h hp
  rw [← heq b (by simp [dgσ])] at a0
  rw [← heq r.b1 (by simp [dgσ])] at a1
  rw [← heq r.b2 (by simp [dgσ])] at a2
  rw [← heq r.b3 (by simp [dgσ])] at a3
  rw [← heq r.b4 (by simp [dgσ])] at a4
  rw [← heq r.m (by simp [dgσ])] at a5
  have lt : ∀ {c : Nat} {x : Option Blk}, H1[c]? = some x → c < H1.length := fun hc => (List.getElem?_eq_some_iff.1 hc).1
  have g0 : gOf (dgσ r b) H1.length 0 = b := by simp [gOf, dgσ]
  have g1 : gOf (dgσ r b) H1.length 1 = r.b1 := by simp [gOf, dgσ]
  have g2 : gOf (dgσ r b) H1.length 2 = r.b2 := by simp [gOf, dgσ]
  have g3 : gOf (dgσ r b) H1.length 3 = r.b3 := by simp [gOf, dgσ]
  have g4 : gOf (dgσ r b) H1.length 4 = r.b4 := by simp [gOf, dgσ]
  have g5 : gOf (dgσ r b) H1.length 5 = r.m := by simp [gOf, dgσ]
  have key := hj.frames (σ := dgσ r b) (B := H1) rfl hnd (by simp [dgσ, lt a0, lt a1, lt a2, lt a3, lt a4, lt a5]) (fun i blk hi => by
    match i, hi with
    | 0, hi =>
      simp only [dgH, d_dg, List.getElem?_cons_zero, Option.some.injEq] at hi; subst hi
      refine ⟨b, rfl, ?_, ?_⟩
      · rw [a0]; simp only [d_dgm, rnB, rnL, rnD, g1, g2, g3, g4, g5]
      · simp only [namesD.namesA, namesD, dgH, List.length_cons, List.length_nil]
        intro c hc; simp at hc; omega
    | 1, hi =>
      simp only [dgH, d_b1, List.getElem?_cons_succ, List.getElem?_cons_zero, Option.some.injEq] at hi; subst hi
      exact ⟨r.b1, rfl, by rw [a1]; simp only [d_b1, rnB, rnL_nl _ _ (busesD_nl _)], by rw [namesL_nl _ (busesD_nl _)]; simp⟩
    | 2, hi =>
      simp only [dgH, d_b2, List.getElem?_cons_succ, List.getElem?_cons_zero, Option.some.injEq] at hi; subst hi
      exact ⟨r.b2, rfl, by rw [a2]; simp only [d_b2, rnB, rnL_nl _ _ (linesD_nl _)], by rw [namesL_nl _ (linesD_nl _)]; simp⟩
    | 3, hi =>
      simp only [dgH, d_b3, List.getElem?_cons_succ, List.getElem?_cons_zero, Option.some.injEq] at hi; subst hi
      exact ⟨r.b3, rfl, by rw [a3]; simp only [d_b3, rnB, rnL_nl _ _ (srcsD_nl _)], by rw [namesL_nl _ (srcsD_nl _)]; simp⟩
    | 4, hi =>
      simp only [dgH, d_b4, List.getElem?_cons_succ, List.getElem?_cons_zero, Option.some.injEq] at hi; subst hi
      exact ⟨r.b4, rfl, by rw [a4]; simp only [d_b4, rnB, rnL_nl _ _ (baysD_nl _)], by rw [namesL_nl _ (baysD_nl _)]; simp⟩
    | 5, hi =>
      rw [show dgH r = [d_dg r.g 1 2 3 4, d_b1 r.g.bu r.f1, d_b2 r.g.li r.f2, d_b3 r.g.so r.f3, d_b4 r.g.ba r.f4, some ⟨itTy, mpD r.g.es, true⟩] from rfl] at hi
      simp only [List.getElem?_cons_succ, List.getElem?_cons_zero, Option.some.injEq] at hi; subst hi
      exact ⟨r.m, rfl, by rw [a5, show d_mp r.g.es = some ⟨itTy, mpD r.g.es, true⟩ from rfl]; simp only [rnB, rnL_nl _ _ (mpD_nl _)], by rw [namesL_nl _ (mpD_nl _)]; simp⟩
    | i + 6, hi => simp [dgH] at hi) hn
  rw [rnD_nl _ _ hd] at key
  exact key
theorem dgσ_0 (r : DgR) (b n : Nat) : gOf (dgσ r b) n 0 = b := by simp [gOf, dgσ]
theorem dg_frame {H H1 : Heap} {b : Nat} {r : DgR} (h : d_dgAt H b = some r) (hp : r.p) (heq : ∀ c ∈ dgσ r b, H1[c]? = H[c]?) {f : FuncId} {plain : List D} {d : D} {H' : Heap} (hn : NamelessL plain) (hd : Nameless d)
    (hj : CallJ Tryd.prog f (.ptr 0 0 :: plain) (dgH r) d H') : CallJ Tryd.prog f (.ptr b 0 :: plain) H1 d (frH (dgσ r b) H1 H') := by
  have key := dg_frameA h hp heq (ds := .ptr 0 0 :: plain) (by rw [show namesD.namesA (D.ptr 0 0 :: plain) = [0] ++ namesD.namesA plain from rfl, namesL_nl _ hn]; simp) hd hj
  rwa [show rnL (gOf (dgσ r b) H1.length) (D.ptr 0 0 :: plain) = D.ptr b 0 :: plain by simp only [rnL, rnD, dgσ_0, rnL_nl _ _ hn]] at key
theorem set_same {B : Heap} {b : Nat} {x : Option Blk} (h : B[b]? = some x) : B.set b x = B := List.ext_getElem? fun c => by
  by_cases e : b = c
  · subst e; rw [List.getElem?_set_self (List.getElem?_eq_some_iff.1 h).1, h]
  · rw [List.getElem?_set_ne e]
theorem frH_dg {H1 : Heap} {r : DgR} {b : Nat} (x0 x1 x2 x3 x4 x5 : Option Blk) (L : Heap) : frH (dgσ r b) H1 ([x0, x1, x2, x3, x4, x5] ++ L) =
    setU ([(b, x0), (r.b1, x1), (r.b2, x2), (r.b3, x3), (r.b4, x4), (r.m, x5)].map fun p => (p.1, p.2.map (rnB (gOf (dgσ r b) H1.length)))) H1 ++ L.map (Option.map (rnB (gOf (dgσ r b) H1.length))) := by
  simp only [frH, dgσ, List.cons_append, List.nil_append, List.map_cons, List.map_nil, setAt, setU, List.length_cons, List.length_nil, List.drop_succ_cons, List.drop_zero]
theorem rn_b1 (g : Nat → Nat) (l : List ByteArray) (f : Bool) : (d_b1 l f).map (rnB g) = d_b1 l f := by simp only [d_b1, Option.map_some, rnB, rnL_nl _ _ (busesD_nl _)]
theorem rn_b2 (g : Nat → Nat) (l : List Lin) (f : Bool) : (d_b2 l f).map (rnB g) = d_b2 l f := by simp only [d_b2, Option.map_some, rnB, rnL_nl _ _ (linesD_nl _)]
theorem rn_b3 (g : Nat → Nat) (l : List Src) (f : Bool) : (d_b3 l f).map (rnB g) = d_b3 l f := by simp only [d_b3, Option.map_some, rnB, rnL_nl _ _ (srcsD_nl _)]
theorem rn_b4 (g : Nat → Nat) (l : List Bay) (f : Bool) : (d_b4 l f).map (rnB g) = d_b4 l f := by simp only [d_b4, Option.map_some, rnB, rnL_nl _ _ (baysD_nl _)]
theorem rn_mp (g : Nat → Nat) (l : List El) : (d_mp l).map (rnB g) = d_mp l := by
  rw [show d_mp l = some ⟨itTy, mpD l, true⟩ from rfl]; simp only [Option.map_some, rnB, rnL_nl _ _ (mpD_nl _)]
theorem rn_dg {r : DgR} {b n : Nat} (g : Dg) (i1 i2 i3 i4 : Nat) : (d_dg g i1 i2 i3 i4).map (rnB (gOf (dgσ r b) n)) =
    d_dgm g.nm (gOf (dgσ r b) n i1) g.bu.length (gOf (dgσ r b) n i2) g.li.length (gOf (dgσ r b) n i3) g.so.length (gOf (dgσ r b) n i4) g.ba.length r.m := by
  have g5 : gOf (dgσ r b) n 5 = r.m := by simp [gOf, dgσ]
  simp only [d_dg, d_dgm, Option.map_some, rnB, rnL, rnD, g5]
theorem gO1 (r : DgR) (b n : Nat) : gOf (dgσ r b) n 1 = r.b1 ∧ gOf (dgσ r b) n 2 = r.b2 ∧ gOf (dgσ r b) n 3 = r.b3 ∧ gOf (dgσ r b) n 4 = r.b4 ∧ gOf (dgσ r b) n 6 = n := by simp [gOf, dgσ]
end Go.Proofs.YtfleadelfklenaaDoor
end
section
namespace Go.Proofs.YtfleadelfklenaaDoor
open Go.VD
set_option linter.unusedVariables false
set_option linter.unusedSimpArgs false
set_option maxRecDepth 100000
def entf_enter : EntF := fun ds H => match ds with
  | [.ptr b 0, .v (.string k), .v (.string s), .v (.int .i64 n), .v (.int .i64 limit)] => match d_dgAt H b with
    | some r => some (.v (.int .i64 (entE r.g.es s n limit)), [(r.m, d_mp (entS r.g.es k s n limit))], [b, r.b1, r.b2, r.b3, r.b4], [], r.p ∧ s.size ≤ maxLen)
    | none => none
  | _ => none
theorem entf_enter_ok : EntFOk Tryd.prog 56 entf_enter := by
  intro ds H d ups rs L p hd hc H1 heq hl; unfold entf_enter at hd; split at hd
  · rename_i b k s n limit
    split at hd
    · rename_i r hr
      injection hd with hd
      simp only [Prod.mk.injEq] at hd
      obtain ⟨rfl, rfl, rfl, rfl, rfl⟩ := hd
      obtain ⟨hp, hs⟩ := hc
      have heq' : ∀ c ∈ dgσ r b, H1[c]? = H[c]? := fun c hc => heq c (by simp only [dgσ, List.mem_cons, List.map_cons, List.map_nil, List.not_mem_nil, or_false] at hc ⊢; omega)
      obtain ⟨hnd, a0, a1, a2, a3, a4, a5⟩ := dgAt_spec hr hp
      have key := dg_frame hr hp heq' (plain := [.v (.string k), .v (.string s), .v (.int .i64 n), .v (.int .i64 limit)]) (by simp [NamelessL, Nameless]) (by simp [Nameless]) (enter_call r.g r.f1 r.f2 r.f3 r.f4 k s n limit hs)
      have e := frH_dg (H1 := H1) (r := r) (b := b) (d_dg r.g 1 2 3 4) (d_b1 r.g.bu r.f1) (d_b2 r.g.li r.f2) (d_b3 r.g.so r.f3) (d_b4 r.g.ba r.f4) (d_mp (entS r.g.es k s n limit)) []
      rw [List.append_nil] at e
      rw [e] at key
      obtain ⟨g1, g2, g3, g4, g6⟩ := gO1 r b H1.length
      simp only [List.map_cons, List.map_nil, rn_dg, rn_b1, rn_b2, rn_b3, rn_b4, rn_mp, g1, g2, g3, g4, setU] at key
      have q0 := (heq' b (by simp [dgσ])).trans a0
      have q1 := (heq' r.b1 (by simp [dgσ])).trans a1
      have q2 := (heq' r.b2 (by simp [dgσ])).trans a2
      have q3 := (heq' r.b3 (by simp [dgσ])).trans a3
      have q4 := (heq' r.b4 (by simp [dgσ])).trans a4
      rw [set_same q0, set_same q1, set_same q2, set_same q3, set_same q4] at key
      exact key
    · cases hd
  · cases hd
def kBus : ByteArray := ⟨#[98, 117, 115]⟩
def buE (g : Dg) (s : ByteArray) : Int := entE g.es s (g.bu.length : Int) 4
def buS (g : Dg) (s : ByteArray) : Dg := { g with bu := bif buE g s == 0 then g.bu ++ [s] else g.bu, es := entS g.es kBus s (g.bu.length : Int) 4 }
theorem addBus_call (g : Dg) (f1 f2 f3 f4 : Bool) (s : ByteArray) (hpre : s.size ≤ maxLen ∧ g.bu.length ≤ 1000) : CallJ Tryd.prog 35 [.ptr 0 0, .v (.string s)] ([d_dg g 1 2 3 4, d_b1 g.bu f1, d_b2 g.li f2, d_b3 g.so f3, d_b4 g.ba f4, d_mp g.es]) (.v (.int .i64 (buE g s))) ([d_dg (buS g s) 6 2 3 4, none, d_b2 g.li f2, d_b3 g.so f3, d_b4 g.ba f4, d_mp (buS g s).es, d_b1 (buS g s).bu (bif buE g s == 0 then false else f1)]) := by
  refine callJ_of_vck (k := 6) (call := (addF 56 (entf_enter) noCalls)) (lp := fun _ => none) (N := 10) T_ok mixed (addF_ok (entf_enter_ok) noCalls_ok) Tryd.func35 rfl (by decide) (by kernel_rfl) (by kernel_rfl) rfl (LpAllK.none _) ?_
  refine of_eq (B := letI z24 := (D.v (Value.map (Option.none))); letI z27 := (D.v (Value.bool Bool.false)); letI z28 := (D.v (Value.bool Bool.true)); letI z21 := (D.v (Value.int IntKind.i64 (1 : Int))); letI z22 := (D.v (Value.int IntKind.i64 (2 : Int))); letI z13 := (D.v (Value.string (ByteArray.mk (Array.mk ([] : List UInt8))))); letI z0 := (List.cons z24 (List.cons z27 (List.cons z28 (List.cons z21 (List.cons z22 (List.cons z13 (elsD (Dg.es g)))))))); letI z3 := (1000000007 : Nat); letI z5 := (unEls (List.drop (6 : Nat) z0)); letI z2 := (List.length (Dg.bu g)); letI z1 := (Option.some (Blk.mk z3 (List.cons z24 (List.cons z27 (List.cons z28 (List.cons z21 (List.cons z22 (List.cons z13 (elsD (entS z5 (ByteArray.mk (Array.mk [(98 : UInt8), (117 : UInt8), (115 : UInt8)])) s ((z2 : Nat) : Int) (4 : Int))))))))) Bool.true)); letI z4 := (busesD (Dg.bu g)); letI z6 := (linesD (Dg.li g)); letI z7 := (srcsD (Dg.so g)); letI z8 := (baysD (Dg.ba g)); letI z34 := (List.length (Dg.ba g)); letI z9 := (D.sl (4 : Nat) (0 : Nat) z34 (Cap.toEnd (12 : Nat))); letI z32 := (List.length (Dg.li g)); letI z10 := (D.sl (2 : Nat) (0 : Nat) z32 (Cap.toEnd (5 : Nat))); letI z33 := (List.length (Dg.so g)); letI z11 := (D.sl (3 : Nat) (0 : Nat) z33 (Cap.toEnd (6 : Nat))); letI z12 := (d_b1 (Dg.bu (buS g s)) (cond ((buE g s) == (0 : Int)) Bool.false f1)); letI z14 := (d_dg (buS g s) (6 : Nat) (2 : Nat) (3 : Nat) (4 : Nat)); letI z15 := (9223372036854775807 : Nat); letI z16 := (entE z5 s ((z2 : Nat) : Int) (4 : Int)); letI z17 := (Option.some (Blk.mk (57 : Nat) z6 f2)); letI z18 := (Option.some (Blk.mk (60 : Nat) z7 f3)); letI z19 := (Option.some (Blk.mk (52 : Nat) z8 f4)); letI z20 := (D.v (Value.int IntKind.i64 (buE g s))); letI z23 := (D.ifc z3 (D.ptr (5 : Nat) (0 : Nat))); letI z25 := (D.v (Value.string (Dg.nm g))); letI z26 := (z2 + (1 : Nat)); letI z29 := (d_mp (Dg.es (buS g s))); letI z30 := ((1 : Nat) < (6 : Nat)); letI z31 := ((9 : Nat) = (9 : Nat)); letI z35 := ((1 : Nat) = (1 : Nat)); letI z36 := (D.v (Value.string s)); letI z37 := (Cap.toEnd (1 : Nat)); letI z38 := (d_b2 (Dg.li g) f2); letI z39 := (d_b3 (Dg.so g) f3); letI z40 := (d_b4 (Dg.ba g) f4); (True ∧ (True ∧ (True ∧ (True ∧ (True ∧ (True ∧ (True ∧ (z30 ∧ (True ∧ (((((ltAll (6 : Nat) [(0 : Nat), (1 : Nat), (2 : Nat), (3 : Nat), (4 : Nat), (5 : Nat)]) && (((!(Nat.beq (0 : Nat) (5 : Nat))) && Bool.true) && (((!(Nat.beq (1 : Nat) (5 : Nat))) && Bool.true) && (((!(Nat.beq (2 : Nat) (5 : Nat))) && Bool.true) && (((!(Nat.beq (3 : Nat) (5 : Nat))) && Bool.true) && (((!(Nat.beq (4 : Nat) (5 : Nat))) && Bool.true) && Bool.true)))))) = Bool.true) ∧ ((DgR.p (DgR.mk (Dg.mk (Dg.nm g) (unBus z4) (unLin z6) (unSrc z7) (unBay z8) z5) (1 : Nat) (2 : Nat) (3 : Nat) (4 : Nat) (5 : Nat) f1 f2 f3 f4 ((((((68 : Nat) = (68 : Nat)) ∧ ((z3 = z3) ∧ (z3 = z3))) ∧ (z31 ∧ (((57 : Nat) = (57 : Nat)) ∧ (((60 : Nat) = (60 : Nat)) ∧ ((52 : Nat) = (52 : Nat)))))) ∧ (Bool.true = Bool.true)) ∧ ((WkOk z2 (List.length (unBus z4)) z4 (busesD (unBus z4))) ∧ ((WkOk z32 (List.length (unLin z6)) z6 (linesD (unLin z6))) ∧ ((WkOk z33 (List.length (unSrc z7)) z7 (srcsD (unSrc z7))) ∧ ((WkOk z34 (List.length (unBay z8)) z8 (baysD (unBay z8))) ∧ (EkOk z0)))))))) ∧ ((ByteArray.size s) ≤ z15))) ∧ (True ∧ (True ∧ (True ∧ (pcond (z16 != (0 : Int)) (True ∧ (True ∧ (True ∧ (∃ (kp : (List KE)), (viewFin (6 : Nat) kp ((List.set [(Option.some (Blk.mk (68 : Nat) [z25, (D.sl (1 : Nat) (0 : Nat) z2 z37), z10, z11, z9, z23] Bool.true)), (Option.some (Blk.mk (9 : Nat) z4 f1)), z17, z18, z19, (Option.some (Blk.mk z3 z0 Bool.true))] (5 : Nat) z1) ++ ([] : List (Option Blk))) (D.v (Value.int IntKind.i64 z16)) z20 [z14, (Option.none), z38, z39, z40, z29, z12]))))) (True ∧ (True ∧ (True ∧ (True ∧ (True ∧ (z30 ∧ (True ∧ ((((1 : Nat) ≤ (16777216 : Nat)) ∧ ((1 : Nat) ≤ z15)) ∧ ((((1 : Nat) ≤ (1 : Nat)) ∧ (((22 : Nat) = (22 : Nat)) ∧ (z35 ∧ (z31 ∧ (((z2 * (1 : Nat)) ≤ (List.length z4)) ∧ (((0 : Nat) < (1 : Nat)) ∧ ((z26 ≤ z15) ∧ ((z26 * (16 : Nat)) ≤ (140737488355328 : Nat))))))))) ∧ (True ∧ (True ∧ (True ∧ ((z35 ∧ ((2 : Nat) ≤ (6 : Nat))) ∧ (True ∧ (True ∧ (∃ (kp : (List KE)), (viewFin (6 : Nat) kp [(Option.some (Blk.mk (68 : Nat) [z25, (D.sl (7 : Nat) (0 : Nat) z26 z37), z10, z11, z9, z23] Bool.true)), (Option.none), z17, z18, z19, z1, (Option.some (Blk.mk (9 : Nat) [z36] Bool.true)), (Option.some (Blk.mk (9 : Nat) ((List.take (z2 * (1 : Nat)) z4) ++ [z36]) Bool.false))] (D.v (Value.int IntKind.i64 (0 : Int))) z20 [z14, (Option.none), z38, z39, z40, z29, z12])))))))))))))))))))))))))))))))) (by kernel_rfl) ?_
  obtain ⟨hs, hl⟩ := hpre
  have hb := busesD_length g.bu
  simp only [true_and, and_true, and_self, IsInt_lit, IsBool_lit, IsStr_lit, IsSl_lit, cellN_lit, cellL_lit, Bool.not_eq_true', Bool.not_eq_false', Bool.not_true, Bool.not_false, Int.reduceLE, Int.reduceLT, Int.reduceNeg, Nat.le_refl, Int.le_refl, Nat.reduceLT, Nat.reduceLeDiff, Nat.reduceEqDiff, D.v.injEq, D.tup.injEq, D.agg.injEq, D.ro.injEq, List.cons.injEq, Value.int.injEq, Value.bool.injEq, pcond_true, pcond_false, NamelessL, Nameless, Nat.reduceMul, Nat.reduceAdd, Nat.zero_add, Int.toNat_natCast, Wk_refl, EkOk_lit, unBus_D, unLin_D, unSrc_D, unBay_D, unEls_D, List.drop_succ_cons, List.drop_zero, and_true, true_and]
  refine ⟨⟨rfl, hs⟩, pcond_intro (fun h => ?_) (fun h => ⟨⟨by omega, by omega, by omega⟩, ?_⟩)⟩
  · rw [bne_iff_ne] at h
    have e0 : (buE g s == 0) = false := beq_false_of_ne h
    have e1 : buS g s = ⟨g.nm, g.bu, g.li, g.so, g.ba, entS g.es kBus s (g.bu.length : Int) 4⟩ := by unfold buS; rw [e0]; rfl
    rw [e1, e0]
    exact ⟨[.nam 0, .dead, .old 2, .old 3, .old 4, .old 5, .old 1], rfl, ⟨⟨⟨rfl, rfl⟩, ⟨trivial, rfl⟩, ⟨trivial, rfl⟩, ⟨trivial, rfl⟩, ⟨trivial, rfl⟩, ⟨trivial, rfl⟩, ⟨trivial, rfl⟩, rfl⟩, ⟨rfl, linesD_nl _⟩, ⟨rfl, srcsD_nl _⟩, ⟨rfl, baysD_nl _⟩, ⟨rfl, mpD_nl _⟩, ⟨rfl, busesD_nl _⟩, rfl⟩, ⟨trivial, rfl⟩⟩
  · rw [bne_eq_false_iff_eq] at h
    have h : buE g s = 0 := h
    have e0 : (buE g s == 0) = true := by rw [h]; rfl
    have e1 : buS g s = ⟨g.nm, g.bu ++ [s], g.li, g.so, g.ba, entS g.es kBus s (g.bu.length : Int) 4⟩ := by unfold buS; rw [e0]; rfl
    rw [e1, h, List.take_of_length_le (by omega), show busesD g.bu ++ [D.v (Value.string s)] = busesD (g.bu ++ [s]) by rw [busesD_app]; rfl, show g.bu.length + 1 = (g.bu ++ [s]).length by simp]
    exact ⟨[.nam 0, .dead, .old 2, .old 3, .old 4, .old 5, .old 7], rfl, ⟨⟨⟨rfl, rfl⟩, ⟨trivial, rfl⟩, ⟨trivial, rfl⟩, ⟨trivial, rfl⟩, ⟨trivial, rfl⟩, ⟨trivial, rfl⟩, ⟨trivial, rfl⟩, rfl⟩, ⟨rfl, linesD_nl _⟩, ⟨rfl, srcsD_nl _⟩, ⟨rfl, baysD_nl _⟩, ⟨rfl, mpD_nl _⟩, ⟨rfl, busesD_nl _⟩, rfl⟩, ⟨trivial, rfl⟩⟩
end Go.Proofs.YtfleadelfklenaaDoor
end
section
namespace Go.Proofs.YtfleadelfklenaaDoor
open Go.VD
set_option linter.unusedVariables false
set_option linter.unusedSimpArgs false
set_option maxRecDepth 100000
def kLine : ByteArray := ⟨#[108, 105, 110, 101]⟩
def kSource : ByteArray := ⟨#[115, 111, 117, 114, 99, 101]⟩
def liE (g : Dg) (x : Lin) : Int := orE (entE g.es x.n (g.li.length : Int) 6) (bif ohmB x.z1 && ohmB x.z0 then 0 else 2)
def liS (g : Dg) (x : Lin) : Dg := { g with li := bif liE g x == 0 then g.li ++ [x] else g.li, es := entS g.es kLine x.n (g.li.length : Int) 6 }
def soE (g : Dg) (x : Src) : Int := orE (entE g.es x.n (g.so.length : Int) 4) (bif srcB x.emf x.z1 x.z0 then 0 else 2)
def soS (g : Dg) (x : Src) : Dg := { g with so := bif soE g x == 0 then g.so ++ [x] else g.so, es := entS g.es kSource x.n (g.so.length : Int) 4 }
theorem linesD_app : ∀ (a : List Lin) (x : Lin), linesD (a ++ [x]) = linesD a ++ linD x
  | [], x => by simp [linesD]
  | y :: a, x => by simp [linesD, linesD_app a x]
theorem srcsD_app : ∀ (a : List Src) (x : Src), srcsD (a ++ [x]) = srcsD a ++ srcD' x
  | [], x => by simp [srcsD]
  | y :: a, x => by simp [srcsD, srcsD_app a x]
theorem addLine_call (g : Dg) (f1 f2 f3 f4 : Bool) (x : Lin) (hpre : x.n.size ≤ maxLen ∧ g.li.length ≤ 1000) : CallJ Tryd.prog 37 [.ptr 0 0, .agg [.v (.string x.n), .v (.int .i64 x.z1.r), .v (.int .i64 x.z1.x), .v (.int .i64 x.z0.r), .v (.int .i64 x.z0.x)]] ([d_dg g 1 2 3 4, d_b1 g.bu f1, d_b2 g.li f2, d_b3 g.so f3, d_b4 g.ba f4, d_mp g.es]) (.v (.int .i64 (liE g x))) ([d_dg (liS g x) 1 6 3 4, d_b1 g.bu f1, none, d_b3 g.so f3, d_b4 g.ba f4, d_mp (liS g x).es, d_b2 (liS g x).li (bif liE g x == 0 then false else f2)]) := by
  refine callJ_of_vck (k := 6) (call := (addF 56 (entf_enter) (addPure 57 ent_pohm noCalls))) (lp := fun _ => none) (N := 10) T_ok mixed (addF_ok (entf_enter_ok) (addPure_ok ent_pohm_ok noCalls_ok)) Tryd.func37 rfl (by decide) (by kernel_rfl) (by kernel_rfl) rfl (LpAllK.none _) ?_
  refine of_eq (B := letI z13 := (1000000007 : Nat); letI z38 := (D.v (Value.map (Option.none))); letI z41 := (D.v (Value.bool Bool.false)); letI z42 := (D.v (Value.bool Bool.true)); letI z37 := (D.v (Value.int IntKind.i64 (1 : Int))); letI z12 := (D.v (Value.int IntKind.i64 (2 : Int))); letI z20 := (D.v (Value.string (ByteArray.mk (Array.mk ([] : List UInt8))))); letI z1 := (List.cons z38 (List.cons z41 (List.cons z42 (List.cons z37 (List.cons z12 (List.cons z20 (elsD (Dg.es g)))))))); letI z14 := (unEls (List.drop (6 : Nat) z1)); letI z5 := (List.length (Dg.li g)); letI z0 := (Option.some (Blk.mk z13 (List.cons z38 (List.cons z41 (List.cons z42 (List.cons z37 (List.cons z12 (List.cons z20 (elsD (entS z14 (ByteArray.mk (Array.mk [(108 : UInt8), (105 : UInt8), (110 : UInt8), (101 : UInt8)])) (Lin.n x) ((z5 : Nat) : Int) (6 : Int))))))))) Bool.true)); letI z24 := (D.v (Value.string (Lin.n x))); letI z30 := (D.v (Value.int IntKind.i64 (Imp.r (Lin.z1 x)))); letI z31 := (D.v (Value.int IntKind.i64 (Imp.x (Lin.z1 x)))); letI z32 := (D.v (Value.int IntKind.i64 (Imp.r (Lin.z0 x)))); letI z33 := (D.v (Value.int IntKind.i64 (Imp.x (Lin.z0 x)))); letI z2 := (Option.some (Blk.mk (57 : Nat) [z24, z30, z31, z32, z33] Bool.true)); letI z39 := (D.v (Value.string (Dg.nm g))); letI z46 := (List.length (Dg.bu g)); letI z17 := (D.sl (1 : Nat) (0 : Nat) z46 (Cap.toEnd (1 : Nat))); letI z49 := (Cap.toEnd (5 : Nat)); letI z47 := (List.length (Dg.so g)); letI z18 := (D.sl (3 : Nat) (0 : Nat) z47 (Cap.toEnd (6 : Nat))); letI z48 := (List.length (Dg.ba g)); letI z16 := (D.sl (4 : Nat) (0 : Nat) z48 (Cap.toEnd (12 : Nat))); letI z36 := (D.ifc z13 (D.ptr (5 : Nat) (0 : Nat))); letI z3 := (Option.some (Blk.mk (68 : Nat) [z39, z17, (D.sl (2 : Nat) (0 : Nat) z5 z49), z18, z16, z36] Bool.true)); letI z4 := (d_b2 (Dg.li (liS g x)) (cond ((liE g x) == (0 : Int)) Bool.false f2)); letI z6 := (d_dg (liS g x) (1 : Nat) (6 : Nat) (3 : Nat) (4 : Nat)); letI z21 := (busesD (Dg.bu g)); letI z7 := (Option.some (Blk.mk (9 : Nat) z21 f1)); letI z22 := (srcsD (Dg.so g)); letI z8 := (Option.some (Blk.mk (60 : Nat) z22 f3)); letI z23 := (baysD (Dg.ba g)); letI z9 := (Option.some (Blk.mk (52 : Nat) z23 f4)); letI z10 := (linesD (Dg.li g)); letI z11 := (D.v (Value.int IntKind.i64 (liE g x))); letI z15 := (Option.some (Blk.mk (57 : Nat) z10 f2)); letI z19 := (d_mp (Dg.es (liS g x))); letI z25 := (9223372036854775807 : Nat); letI z26 := (d_b1 (Dg.bu g) f1); letI z27 := (d_b3 (Dg.so g) f3); letI z28 := (d_b4 (Dg.ba g) f4); letI z29 := (entE z14 (Lin.n x) ((z5 : Nat) : Int) (6 : Int)); letI z34 := ((5 : Nat) ≤ (5 : Nat)); letI z35 := Bool.true = Bool.true; letI z40 := (z5 + (1 : Nat)); letI z43 := ((57 : Nat) = (57 : Nat)); letI z44 := ((0 : Nat) < (5 : Nat)); letI z45 := ((2 : Nat) < (6 : Nat)); (True ∧ (True ∧ (True ∧ (True ∧ ((z44 ∧ (IsStr z24)) ∧ (True ∧ (True ∧ (True ∧ (True ∧ (z45 ∧ (True ∧ (((((ltAll (7 : Nat) [(0 : Nat), (1 : Nat), (2 : Nat), (3 : Nat), (4 : Nat), (5 : Nat)]) && (((!(Nat.beq (0 : Nat) (5 : Nat))) && Bool.true) && (((!(Nat.beq (1 : Nat) (5 : Nat))) && Bool.true) && (((!(Nat.beq (2 : Nat) (5 : Nat))) && Bool.true) && (((!(Nat.beq (3 : Nat) (5 : Nat))) && Bool.true) && (((!(Nat.beq (4 : Nat) (5 : Nat))) && Bool.true) && Bool.true)))))) = Bool.true) ∧ ((DgR.p (DgR.mk (Dg.mk (Dg.nm g) (unBus z21) (unLin z10) (unSrc z22) (unBay z23) z14) (1 : Nat) (2 : Nat) (3 : Nat) (4 : Nat) (5 : Nat) f1 f2 f3 f4 ((((((68 : Nat) = (68 : Nat)) ∧ ((z13 = z13) ∧ (z13 = z13))) ∧ (((9 : Nat) = (9 : Nat)) ∧ (z43 ∧ (((60 : Nat) = (60 : Nat)) ∧ ((52 : Nat) = (52 : Nat)))))) ∧ z35) ∧ ((WkOk z46 (List.length (unBus z21)) z21 (busesD (unBus z21))) ∧ ((WkOk z5 (List.length (unLin z10)) z10 (linesD (unLin z10))) ∧ ((WkOk z47 (List.length (unSrc z22)) z22 (srcsD (unSrc z22))) ∧ ((WkOk z48 (List.length (unBay z23)) z23 (baysD (unBay z23))) ∧ (EkOk z1)))))))) ∧ ((ByteArray.size (Lin.n x)) ≤ z25))) ∧ (True ∧ (z35 ∧ (True ∧ (True ∧ (pcond (z29 != (0 : Int)) (True ∧ (True ∧ (True ∧ (∃ (kp : (List KE)), (viewFin (6 : Nat) kp ((List.set [z3, z7, z15, z8, z9, (Option.some (Blk.mk z13 z1 Bool.true)), z2] (5 : Nat) z0) ++ ([] : List (Option Blk))) (D.v (Value.int IntKind.i64 z29)) z11 [z6, z26, (Option.none), z27, z28, z19, z4]))))) (True ∧ (((3 : Nat) ≤ (5 : Nat)) ∧ (True ∧ (True ∧ (True ∧ (pcond (!(ohmB (Imp.mk (Imp.r (Lin.z1 x)) (Imp.x (Lin.z1 x))))) (True ∧ (True ∧ (True ∧ (∃ (kp : (List KE)), (viewFin (6 : Nat) kp [z3, z7, z15, z8, z9, z0, z2] z12 z11 [z6, z26, (Option.none), z27, z28, z19, z4]))))) (True ∧ (z34 ∧ (True ∧ (True ∧ (True ∧ (pcond (!(ohmB (Imp.mk (Imp.r (Lin.z0 x)) (Imp.x (Lin.z0 x))))) (True ∧ (True ∧ (∃ (kp : (List KE)), (viewFin (6 : Nat) kp [z3, z7, z15, z8, z9, z0, z2] z12 z11 [z6, z26, (Option.none), z27, z28, z19, z4])))) (True ∧ (True ∧ (True ∧ (True ∧ (True ∧ (z45 ∧ (z34 ∧ ((((5 : Nat) ≤ (16777216 : Nat)) ∧ ((1 : Nat) ≤ z25)) ∧ ((z34 ∧ (((23 : Nat) = (23 : Nat)) ∧ (((5 : Nat) = (5 : Nat)) ∧ (z43 ∧ (((z5 * (5 : Nat)) ≤ (List.length z10)) ∧ (z44 ∧ ((z40 ≤ z25) ∧ ((z40 * (48 : Nat)) ≤ (140737488355328 : Nat))))))))) ∧ (True ∧ (True ∧ (True ∧ ((((1 : Nat) = (1 : Nat)) ∧ ((3 : Nat) ≤ (6 : Nat))) ∧ (z35 ∧ (True ∧ (True ∧ (∃ (kp : (List KE)), (viewFin (6 : Nat) kp [(Option.some (Blk.mk (68 : Nat) [z39, z17, (D.sl (8 : Nat) (0 : Nat) z40 z49), z18, z16, z36] Bool.true)), z7, (Option.none), z8, z9, z0, z2, z2, (Option.some (Blk.mk (57 : Nat) ((List.take (z5 * (5 : Nat)) z10) ++ [z24, z30, z31, z32, z33]) Bool.false))] (D.v (Value.int IntKind.i64 (0 : Int))) z11 [z6, z26, (Option.none), z27, z28, z19, z4])))))))))))))))))))))))))))))))))))))))))))))))) (by kernel_rfl) ?_
  obtain ⟨hs, hl⟩ := hpre
  have hb := linesD_length g.li
  have es : ∀ u : Imp, Imp.mk u.r u.x = u := fun _ => rfl
  simp only [true_and, and_true, and_self, IsInt_lit, IsBool_lit, IsStr_lit, IsSl_lit, cellN_lit, cellL_lit, Bool.not_eq_true', Bool.not_eq_false', Bool.not_true, Bool.not_false, Int.reduceLE, Int.reduceLT, Int.reduceNeg, Nat.le_refl, Int.le_refl, Nat.reduceLT, Nat.reduceLeDiff, Nat.reduceEqDiff, D.v.injEq, D.tup.injEq, D.agg.injEq, D.ro.injEq, List.cons.injEq, Value.int.injEq, Value.bool.injEq, pcond_true, pcond_false, NamelessL, Nameless, Nat.reduceMul, Nat.reduceAdd, Nat.zero_add, Int.toNat_natCast, Wk_refl, EkOk_lit, unBus_D, unLin_D, unSrc_D, unBay_D, unEls_D, List.drop_succ_cons, List.drop_zero, and_true, true_and, imp_eta]
  have fail : ∀ e : Int, e ≠ 0 → liE g x = e → ∃ kp, viewFin 6 kp [some ⟨68, [.v (.string g.nm), .sl 1 0 g.bu.length (.toEnd 1), .sl 2 0 g.li.length (.toEnd 5), .sl 3 0 g.so.length (.toEnd 6), .sl 4 0 g.ba.length (.toEnd 12), .ifc itTy (.ptr 5 0)], true⟩, d_b1 g.bu f1, d_b2 g.li f2, d_b3 g.so f3, d_b4 g.ba f4, d_mp (entS g.es kLine x.n (g.li.length : Int) 6), some ⟨57, linD x, true⟩] (.v (.int .i64 e)) (.v (.int .i64 (liE g x)))
      [d_dg (liS g x) 1 6 3 4, d_b1 g.bu f1, none, d_b3 g.so f3, d_b4 g.ba f4, d_mp (liS g x).es, d_b2 (liS g x).li (bif liE g x == 0 then false else f2)] := fun e he hv => by
    have e0 : (liE g x == 0) = false := by rw [hv]; exact beq_false_of_ne he
    have e1 : liS g x = ⟨g.nm, g.bu, g.li, g.so, g.ba, entS g.es kLine x.n (g.li.length : Int) 6⟩ := by unfold liS; rw [e0]; rfl
    rw [e1, e0, hv]
    exact ⟨[.nam 0, .old 1, .dead, .old 3, .old 4, .old 5, .old 2], rfl, ⟨⟨⟨rfl, rfl⟩, ⟨trivial, rfl⟩, ⟨trivial, rfl⟩, ⟨trivial, rfl⟩, ⟨trivial, rfl⟩, ⟨trivial, rfl⟩, ⟨trivial, rfl⟩, rfl⟩, ⟨rfl, busesD_nl _⟩, ⟨rfl, srcsD_nl _⟩, ⟨rfl, baysD_nl _⟩, ⟨rfl, mpD_nl _⟩, ⟨rfl, linesD_nl _⟩, rfl⟩, ⟨trivial, rfl⟩⟩
  refine ⟨⟨rfl, hs⟩, pcond_intro (fun h => ?_) (fun h => ?_)⟩
  · rw [bne_iff_ne] at h
    exact fail _ h (orE_ne h)
  rw [bne_eq_false_iff_eq] at h
  refine pcond_intro (fun h1 => ?_) (fun h1 => pcond_intro (fun h2 => ?_) (fun h2 => ⟨⟨by omega, by omega, by omega⟩, ?_⟩))
  · rw [Bool.not_eq_true'] at h1
    exact fail 2 (by decide) (by unfold liE; rw [h, h1]; rfl)
  · rw [Bool.not_eq_true'] at h2
    exact fail 2 (by decide) (by unfold liE; rw [h, h2, Bool.and_false]; rfl)
  · rw [Bool.not_eq_false'] at h1 h2
    have hv : liE g x = 0 := by unfold liE; rw [h, h1, h2]; rfl
    have e0 : (liE g x == 0) = true := by rw [hv]; rfl
    have e1 : liS g x = ⟨g.nm, g.bu, g.li ++ [x], g.so, g.ba, entS g.es kLine x.n (g.li.length : Int) 6⟩ := by unfold liS; rw [e0]; rfl
    rw [e1, hv, List.take_of_length_le (by omega)]
    have e2 := linesD_app g.li x
    have e3 : g.li.length + 1 = (g.li ++ [x]).length := by simp
    simp only [linD] at e2
    rw [← e2, e3]
    exact ⟨[.nam 0, .old 1, .dead, .old 3, .old 4, .old 5, .old 8], rfl, ⟨⟨⟨rfl, rfl⟩, ⟨trivial, rfl⟩, ⟨trivial, rfl⟩, ⟨trivial, rfl⟩, ⟨trivial, rfl⟩, ⟨trivial, rfl⟩, ⟨trivial, rfl⟩, rfl⟩, ⟨rfl, busesD_nl _⟩, ⟨rfl, srcsD_nl _⟩, ⟨rfl, baysD_nl _⟩, ⟨rfl, mpD_nl _⟩, ⟨rfl, linesD_nl _⟩, rfl⟩, ⟨trivial, rfl⟩⟩
theorem addSource_call (g : Dg) (f1 f2 f3 f4 : Bool) (x : Src) (hpre : x.n.size ≤ maxLen ∧ g.so.length ≤ 1000) : CallJ Tryd.prog 39 [.ptr 0 0, .agg [.v (.string x.n), .v (.int .i64 x.emf), .v (.int .i64 x.z1.r), .v (.int .i64 x.z1.x), .v (.int .i64 x.z0.r), .v (.int .i64 x.z0.x)]] ([d_dg g 1 2 3 4, d_b1 g.bu f1, d_b2 g.li f2, d_b3 g.so f3, d_b4 g.ba f4, d_mp g.es]) (.v (.int .i64 (soE g x))) ([d_dg (soS g x) 1 2 6 4, d_b1 g.bu f1, d_b2 g.li f2, none, d_b4 g.ba f4, d_mp (soS g x).es, d_b3 (soS g x).so (bif soE g x == 0 then false else f3)]) := by
  refine callJ_of_vck (k := 6) (call := (addF 56 (entf_enter) (addPure 58 ent_pbtw (addPure 57 ent_pohm noCalls)))) (lp := fun _ => none) (N := 10) T_ok mixed (addF_ok (entf_enter_ok) (addPure_ok ent_pbtw_ok (addPure_ok ent_pohm_ok noCalls_ok))) Tryd.func39 rfl (by decide) (by kernel_rfl) (by kernel_rfl) rfl (LpAllK.none _) ?_
  refine of_eq (B := letI z13 := (1000000007 : Nat); letI z39 := (D.v (Value.map (Option.none))); letI z42 := (D.v (Value.bool Bool.false)); letI z43 := (D.v (Value.bool Bool.true)); letI z38 := (D.v (Value.int IntKind.i64 (1 : Int))); letI z12 := (D.v (Value.int IntKind.i64 (2 : Int))); letI z24 := (D.v (Value.string (ByteArray.mk (Array.mk ([] : List UInt8))))); letI z1 := (List.cons z39 (List.cons z42 (List.cons z43 (List.cons z38 (List.cons z12 (List.cons z24 (elsD (Dg.es g)))))))); letI z14 := (unEls (List.drop (6 : Nat) z1)); letI z9 := (List.length (Dg.so g)); letI z0 := (Option.some (Blk.mk z13 (List.cons z39 (List.cons z42 (List.cons z43 (List.cons z38 (List.cons z12 (List.cons z24 (elsD (entS z14 (ByteArray.mk (Array.mk [(115 : UInt8), (111 : UInt8), (117 : UInt8), (114 : UInt8), (99 : UInt8), (101 : UInt8)])) (Src.n x) ((z9 : Nat) : Int) (4 : Int))))))))) Bool.true)); letI z28 := (D.v (Value.string (Src.n x))); letI z17 := (D.v (Value.int IntKind.i64 (Src.emf x))); letI z31 := (D.v (Value.int IntKind.i64 (Imp.r (Src.z1 x)))); letI z32 := (D.v (Value.int IntKind.i64 (Imp.x (Src.z1 x)))); letI z33 := (D.v (Value.int IntKind.i64 (Imp.r (Src.z0 x)))); letI z34 := (D.v (Value.int IntKind.i64 (Imp.x (Src.z0 x)))); letI z2 := (Option.some (Blk.mk (60 : Nat) [z28, z17, z31, z32, z33, z34] Bool.true)); letI z40 := (D.v (Value.string (Dg.nm g))); letI z48 := (List.length (Dg.bu g)); letI z19 := (D.sl (1 : Nat) (0 : Nat) z48 (Cap.toEnd (1 : Nat))); letI z49 := (List.length (Dg.li g)); letI z20 := (D.sl (2 : Nat) (0 : Nat) z49 (Cap.toEnd (5 : Nat))); letI z51 := (Cap.toEnd (6 : Nat)); letI z50 := (List.length (Dg.ba g)); letI z18 := (D.sl (4 : Nat) (0 : Nat) z50 (Cap.toEnd (12 : Nat))); letI z37 := (D.ifc z13 (D.ptr (5 : Nat) (0 : Nat))); letI z3 := (Option.some (Blk.mk (68 : Nat) [z40, z19, z20, (D.sl (3 : Nat) (0 : Nat) z9 z51), z18, z37] Bool.true)); letI z4 := (d_b3 (Dg.so (soS g x)) (cond ((soE g x) == (0 : Int)) Bool.false f3)); letI z5 := (d_dg (soS g x) (1 : Nat) (2 : Nat) (6 : Nat) (4 : Nat)); letI z26 := (linesD (Dg.li g)); letI z6 := (Option.some (Blk.mk (57 : Nat) z26 f2)); letI z25 := (busesD (Dg.bu g)); letI z7 := (Option.some (Blk.mk (9 : Nat) z25 f1)); letI z27 := (baysD (Dg.ba g)); letI z8 := (Option.some (Blk.mk (52 : Nat) z27 f4)); letI z15 := (srcsD (Dg.so g)); letI z10 := (Option.some (Blk.mk (60 : Nat) z15 f3)); letI z11 := (D.v (Value.int IntKind.i64 (soE g x))); letI z16 := (d_mp (Dg.es (soS g x))); letI z21 := (d_b1 (Dg.bu g) f1); letI z22 := (d_b2 (Dg.li g) f2); letI z23 := (d_b4 (Dg.ba g) f4); letI z29 := (9223372036854775807 : Nat); letI z30 := (entE z14 (Src.n x) ((z9 : Nat) : Int) (4 : Int)); letI z35 := ((6 : Nat) ≤ (6 : Nat)); letI z36 := Bool.true = Bool.true; letI z41 := (z9 + (1 : Nat)); letI z44 := ((60 : Nat) = (60 : Nat)); letI z45 := ((4 : Nat) ≤ (6 : Nat)); letI z46 := ((0 : Nat) < (6 : Nat)); letI z47 := ((3 : Nat) < (6 : Nat)); (True ∧ (True ∧ (True ∧ (True ∧ ((z46 ∧ (IsStr z28)) ∧ (True ∧ (True ∧ (True ∧ (True ∧ (z47 ∧ (True ∧ (((((ltAll (7 : Nat) [(0 : Nat), (1 : Nat), (2 : Nat), (3 : Nat), (4 : Nat), (5 : Nat)]) && (((!(Nat.beq (0 : Nat) (5 : Nat))) && Bool.true) && (((!(Nat.beq (1 : Nat) (5 : Nat))) && Bool.true) && (((!(Nat.beq (2 : Nat) (5 : Nat))) && Bool.true) && (((!(Nat.beq (3 : Nat) (5 : Nat))) && Bool.true) && (((!(Nat.beq (4 : Nat) (5 : Nat))) && Bool.true) && Bool.true)))))) = Bool.true) ∧ ((DgR.p (DgR.mk (Dg.mk (Dg.nm g) (unBus z25) (unLin z26) (unSrc z15) (unBay z27) z14) (1 : Nat) (2 : Nat) (3 : Nat) (4 : Nat) (5 : Nat) f1 f2 f3 f4 ((((((68 : Nat) = (68 : Nat)) ∧ ((z13 = z13) ∧ (z13 = z13))) ∧ (((9 : Nat) = (9 : Nat)) ∧ (((57 : Nat) = (57 : Nat)) ∧ (z44 ∧ ((52 : Nat) = (52 : Nat)))))) ∧ z36) ∧ ((WkOk z48 (List.length (unBus z25)) z25 (busesD (unBus z25))) ∧ ((WkOk z49 (List.length (unLin z26)) z26 (linesD (unLin z26))) ∧ ((WkOk z9 (List.length (unSrc z15)) z15 (srcsD (unSrc z15))) ∧ ((WkOk z50 (List.length (unBay z27)) z27 (baysD (unBay z27))) ∧ (EkOk z1)))))))) ∧ ((ByteArray.size (Src.n x)) ≤ z29))) ∧ (True ∧ (z36 ∧ (True ∧ (True ∧ (pcond (z30 != (0 : Int)) (True ∧ (True ∧ (True ∧ (∃ (kp : (List KE)), (viewFin (6 : Nat) kp ((List.set [z3, z7, z6, z10, z8, (Option.some (Blk.mk z13 z1 Bool.true)), z2] (5 : Nat) z0) ++ ([] : List (Option Blk))) (D.v (Value.int IntKind.i64 z30)) z11 [z5, z21, z22, (Option.none), z23, z16, z4]))))) (True ∧ ((((1 : Nat) < (6 : Nat)) ∧ (IsInt IntKind.i64 z17)) ∧ (True ∧ (True ∧ (True ∧ (pcond (!(btw (Src.emf x) (1 : Int) (1000000 : Int))) (True ∧ (True ∧ (True ∧ (True ∧ (True ∧ (∃ (kp : (List KE)), (viewFin (6 : Nat) kp [z3, z7, z6, z10, z8, z0, z2] z12 z11 [z5, z21, z22, (Option.none), z23, z16, z4]))))))) (True ∧ (z45 ∧ (True ∧ (True ∧ (True ∧ (True ∧ (pcond (!(ohmB (Imp.mk (Imp.r (Src.z1 x)) (Imp.x (Src.z1 x))))) (True ∧ (True ∧ (True ∧ (∃ (kp : (List KE)), (viewFin (6 : Nat) kp [z3, z7, z6, z10, z8, z0, z2] z12 z11 [z5, z21, z22, (Option.none), z23, z16, z4]))))) (True ∧ (z35 ∧ (True ∧ (True ∧ (True ∧ (pcond (!(ohmB (Imp.mk (Imp.r (Src.z0 x)) (Imp.x (Src.z0 x))))) (True ∧ (True ∧ (∃ (kp : (List KE)), (viewFin (6 : Nat) kp [z3, z7, z6, z10, z8, z0, z2] z12 z11 [z5, z21, z22, (Option.none), z23, z16, z4])))) (True ∧ (True ∧ (True ∧ (True ∧ (True ∧ (z47 ∧ (z35 ∧ ((((6 : Nat) ≤ (16777216 : Nat)) ∧ ((1 : Nat) ≤ z29)) ∧ ((z35 ∧ (((24 : Nat) = (24 : Nat)) ∧ (((6 : Nat) = (6 : Nat)) ∧ (z44 ∧ (((z9 * (6 : Nat)) ≤ (List.length z15)) ∧ (z46 ∧ ((z41 ≤ z29) ∧ ((z41 * (56 : Nat)) ≤ (140737488355328 : Nat))))))))) ∧ (True ∧ (True ∧ (True ∧ ((((1 : Nat) = (1 : Nat)) ∧ z45) ∧ (z36 ∧ (True ∧ (True ∧ (∃ (kp : (List KE)), (viewFin (6 : Nat) kp [(Option.some (Blk.mk (68 : Nat) [z40, z19, z20, (D.sl (8 : Nat) (0 : Nat) z41 z51), z18, z37] Bool.true)), z7, z6, (Option.none), z8, z0, z2, z2, (Option.some (Blk.mk (60 : Nat) ((List.take (z9 * (6 : Nat)) z15) ++ [z28, z17, z31, z32, z33, z34]) Bool.false))] (D.v (Value.int IntKind.i64 (0 : Int))) z11 [z5, z21, z22, (Option.none), z23, z16, z4]))))))))))))))))))))))))))))))))))))))))))))))))))))))) (by kernel_rfl) ?_
  obtain ⟨hs, hl⟩ := hpre
  have hb := srcsD_length g.so
  have es : ∀ u : Imp, Imp.mk u.r u.x = u := fun _ => rfl
  simp only [true_and, and_true, and_self, IsInt_lit, IsBool_lit, IsStr_lit, IsSl_lit, cellN_lit, cellL_lit, Bool.not_eq_true', Bool.not_eq_false', Bool.not_true, Bool.not_false, Int.reduceLE, Int.reduceLT, Int.reduceNeg, Nat.le_refl, Int.le_refl, Nat.reduceLT, Nat.reduceLeDiff, Nat.reduceEqDiff, D.v.injEq, D.tup.injEq, D.agg.injEq, D.ro.injEq, List.cons.injEq, Value.int.injEq, Value.bool.injEq, pcond_true, pcond_false, NamelessL, Nameless, Nat.reduceMul, Nat.reduceAdd, Nat.zero_add, Int.toNat_natCast, Wk_refl, EkOk_lit, unBus_D, unLin_D, unSrc_D, unBay_D, unEls_D, List.drop_succ_cons, List.drop_zero, and_true, true_and, imp_eta]
  have fail : ∀ e : Int, e ≠ 0 → soE g x = e → ∃ kp, viewFin 6 kp [some ⟨68, [.v (.string g.nm), .sl 1 0 g.bu.length (.toEnd 1), .sl 2 0 g.li.length (.toEnd 5), .sl 3 0 g.so.length (.toEnd 6), .sl 4 0 g.ba.length (.toEnd 12), .ifc itTy (.ptr 5 0)], true⟩, d_b1 g.bu f1, d_b2 g.li f2, d_b3 g.so f3, d_b4 g.ba f4, d_mp (entS g.es kSource x.n (g.so.length : Int) 4), some ⟨60, srcD' x, true⟩] (.v (.int .i64 e)) (.v (.int .i64 (soE g x)))
      [d_dg (soS g x) 1 2 6 4, d_b1 g.bu f1, d_b2 g.li f2, none, d_b4 g.ba f4, d_mp (soS g x).es, d_b3 (soS g x).so (bif soE g x == 0 then false else f3)] := fun e he hv => by
    have e0 : (soE g x == 0) = false := by rw [hv]; exact beq_false_of_ne he
    have e1 : soS g x = ⟨g.nm, g.bu, g.li, g.so, g.ba, entS g.es kSource x.n (g.so.length : Int) 4⟩ := by unfold soS; rw [e0]; rfl
    rw [e1, e0, hv]
    exact ⟨[.nam 0, .old 1, .old 2, .dead, .old 4, .old 5, .old 3], rfl, ⟨⟨⟨rfl, rfl⟩, ⟨trivial, rfl⟩, ⟨trivial, rfl⟩, ⟨trivial, rfl⟩, ⟨trivial, rfl⟩, ⟨trivial, rfl⟩, ⟨trivial, rfl⟩, rfl⟩, ⟨rfl, busesD_nl _⟩, ⟨rfl, linesD_nl _⟩, ⟨rfl, baysD_nl _⟩, ⟨rfl, mpD_nl _⟩, ⟨rfl, srcsD_nl _⟩, rfl⟩, ⟨trivial, rfl⟩⟩
  refine ⟨⟨rfl, hs⟩, pcond_intro (fun h => ?_) (fun h => ?_)⟩
  · rw [bne_iff_ne] at h
    exact fail _ h (orE_ne h)
  rw [bne_eq_false_iff_eq] at h
  refine pcond_intro (fun h0 => ?_) (fun h0 => pcond_intro (fun h1 => ?_) (fun h1 => pcond_intro (fun h2 => ?_) (fun h2 => ⟨⟨by omega, by omega, by omega⟩, ?_⟩)))
  · rw [Bool.not_eq_true'] at h0
    exact fail 2 (by decide) (by unfold soE srcB; rw [h, h0]; rfl)
  · rw [Bool.not_eq_true'] at h1
    exact fail 2 (by decide) (by unfold soE srcB; rw [h, h1, Bool.false_and, Bool.and_false]; rfl)
  · rw [Bool.not_eq_true'] at h2
    exact fail 2 (by decide) (by unfold soE srcB; rw [h, h2, Bool.and_false, Bool.and_false]; rfl)
  · rw [Bool.not_eq_false'] at h0 h1 h2
    have hv : soE g x = 0 := by unfold soE srcB; rw [h, h0, h1, h2]; rfl
    have e0 : (soE g x == 0) = true := by rw [hv]; rfl
    have e1 : soS g x = ⟨g.nm, g.bu, g.li, g.so ++ [x], g.ba, entS g.es kSource x.n (g.so.length : Int) 4⟩ := by unfold soS; rw [e0]; rfl
    rw [e1, hv, List.take_of_length_le (by omega)]
    have e2 := srcsD_app g.so x
    have e3 : g.so.length + 1 = (g.so ++ [x]).length := by simp
    simp only [srcD'] at e2
    rw [← e2, e3]
    exact ⟨[.nam 0, .old 1, .old 2, .dead, .old 4, .old 5, .old 8], rfl, ⟨⟨⟨rfl, rfl⟩, ⟨trivial, rfl⟩, ⟨trivial, rfl⟩, ⟨trivial, rfl⟩, ⟨trivial, rfl⟩, ⟨trivial, rfl⟩, ⟨trivial, rfl⟩, rfl⟩, ⟨rfl, busesD_nl _⟩, ⟨rfl, linesD_nl _⟩, ⟨rfl, baysD_nl _⟩, ⟨rfl, mpD_nl _⟩, ⟨rfl, srcsD_nl _⟩, rfl⟩, ⟨trivial, rfl⟩⟩
end Go.Proofs.YtfleadelfklenaaDoor
end
