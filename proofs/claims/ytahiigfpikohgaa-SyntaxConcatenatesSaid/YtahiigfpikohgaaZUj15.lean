import Derived.Test.YtahiigfpikohgaaZUj14
import Derived.RegionTactic
section
namespace Go.Proofs.Ytahiigfpikohgaa
open Go.VD Go.RowKit
set_option linter.unusedVariables false
set_option linter.unusedSimpArgs false
set_option maxRecDepth 100000
theorem byte_under : Try.prog.underlying 66 = some (.pointer 5) := by kernel_rfl
theorem byte_cells : Try.prog.cellsOf 5 = 1 := by kernel_rfl
set_option maxHeartbeats 4000000 in
theorem str_full (b g cap : Nat) (p : Value) (cur : Array Value) (l : List UInt8) (w : World) (h0 : l ≠ []) (hcap : l.length ≤ cap) (hcm : cap ≤ maxLen) (hsz : cur.size = cap)
    (hb : w.heap[b]? = some (.cells #[p, .slice (some ⟨g, 0, none⟩) l.length cap] 44 (0, 0))) (hg : w.heap[g]? = some (.cells cur 5 (0, 0))) (ht : cur.toList.take l.length = Lib.byteCells l) :
    Calls Try.prog 21 #[.pointer (some ⟨b, 0, none⟩)] w fun e w' => e = .returned (.string ⟨l.toArray⟩) ∧ w' = w.drew.freeze ⟨g, 0, none⟩ l.length := by
  have hpos : 0 < l.length := List.length_pos_iff.2 h0
  have c1 : w.drew.cell? ⟨b, 1, none⟩ = some (.slice (some ⟨g, 0, none⟩) l.length cap) := by
    have : w.drew.heap[b]? = some (.cells #[p, .slice (some ⟨g, 0, none⟩) l.length cap] 44 (0, 0)) := hb
    rw [Lib.cell_of_heap this]; rfl
  have hg' : w.drew.heap[g]? = some (.cells cur 5 (0, 0)) := hg
  have hSD : (Builtin.unsafeSliceData_ #[42] 66 #[.slice (some ⟨g, 0, none⟩) l.length cap]).run Try.prog w.drew = .ok (.pointer (some ⟨g, 0, none⟩)) w.drew :=
    Lib.run_unsafeSliceData_row _ _ _ _ _ _ (by omega)
  have hUS : (Builtin.unsafeString_ #[66, 3] 9 #[.pointer (some ⟨g, 0, none⟩), .int .i64 l.length]).run Try.prog w.drew = .ok (.string ⟨l.toArray⟩) (w.drew.freeze ⟨g, 0, none⟩ l.length) := by
    refine Lib.run_unsafeString_row w.drew 66 3 9 5 byte_under byte_cells g cur.size (by simp [World.shape?, hg']) l h0 (by omega) (by unfold maxLen at hcm; omega) ?_
    intro j x hx
    exact Lib.cells_of_row hg' l.length j _ (by rw [ht]; simp [Lib.byteCells, hx])
  go_enter Try.func21, Try.ntmps21
  go_wp2
  go_region
  all_goals (go_wp2; go_ret; exact ⟨rfl, rfl⟩)
set_option maxHeartbeats 4000000 in
theorem str_nil (b : Nat) (p : Value) (w : World) (hb : w.heap[b]? = some (.cells #[p, .slice none 0 0] 44 (0, 0))) :
    Calls Try.prog 21 #[.pointer (some ⟨b, 0, none⟩)] w fun e w' => e = .returned (.string ⟨#[]⟩) ∧ w' = w.drew := by
  have hUS : ∀ (W : World) (q : Option Addr), (Builtin.unsafeString_ #[66, 3] 9 #[.pointer q, .int .i64 0]).run Try.prog W = .ok (.string .empty) W := fun W q => Lib.run_unsafeString_none W _ _ _ q
  have c1 : w.drew.cell? ⟨b, 1, none⟩ = some (.slice none 0 0) := by
    have : w.drew.heap[b]? = some (.cells #[p, .slice none 0 0] 44 (0, 0)) := hb
    rw [Lib.cell_of_heap this]; rfl
  have hSD : (Builtin.unsafeSliceData_ #[42] 66 #[.slice none 0 0]).run Try.prog w.drew = .ok (.pointer none) w.drew := rfl
  go_enter Try.func21, Try.ntmps21
  go_wp2
  go_region
  all_goals (go_wp2; go_ret; exact ⟨rfl, rfl⟩)
theorem freeze_other (w : World) (p : Addr) (n k : Nat) (h : k ≠ p.block) : (w.freeze p n).heap[k]? = w.heap[k]? := by
  unfold World.freeze
  split
  · rfl
  · simp only [Array.getElem?_modify]
    rw [if_neg (fun e => h e.symm)]
theorem freeze_size (w : World) (p : Addr) (n : Nat) : (w.freeze p n).heap.size = w.heap.size := by
  unfold World.freeze; split <;> simp
theorem freeze_rest (w : World) (p : Addr) (n : Nat) : (w.freeze p n).os = w.os ∧ (w.freeze p n).tape = w.tape ∧ (w.freeze p n).output = w.output := by
  unfold World.freeze; split <;> simp
theorem bytCells {E : Ctx} : ∀ (l : List UInt8) (us : List Value), RdL E (bytD l) us → us = Lib.byteCells l
  | [], us, h => by simpa [bytD, RdL, Lib.byteCells] using h
  | b :: r, us, h => by
    simp only [bytD, List.map_cons, RdL, Rd] at h
    obtain ⟨u, t, rfl, _, rfl, h2⟩ := h
    have := bytCells r t (by simpa [bytD] using h2)
    simp [Lib.byteCells, this]
theorem str_call {H : Heap} {b b1 : Nat} {a : D} {fl : Bool} {s : List UInt8} (hb : H[b]? = some (some ⟨44, [a, .sl b1 0 s.length (.toEnd 1)], true⟩)) (hb1 : H[b1]? = some (some ⟨5, bytD s, fl⟩)) (h0 : s ≠ []) (hne : b ≠ b1) :
    CallJ Try.prog 21 [.ptr b 0] H (.v (.string ⟨s.toArray⟩)) (H.set b1 none) := by
  refine ⟨⟨_, Try.func21, by kernel_rfl, by kernel_rfl⟩, fun ρ S w vals hS hv => ?_⟩
  have hvals : vals = [.pointer (some ⟨(ρ b).1, 0, none⟩)] := by
    simp only [RdT, Rd] at hv
    obtain ⟨u, r, rfl, ⟨_, rfl⟩, rfl⟩ := hv
    rfl
  subst hvals
  have hz : 0 < (ρ b).2 := Nat.pos_of_ne_zero fun h0 => by have := hS.none b _ hb h0; cases this
  have hpos : 0 < s.length := List.length_pos_iff.2 h0
  have hz1 : 0 < (ρ b1).2 := Nat.pos_of_ne_zero fun h => by
    have := hS.none b1 _ hb1 h
    have := congrArg List.length this
    rw [bytD_length] at this; simp only [List.length_nil] at this; omega
  obtain ⟨cur, hc⟩ := hS.blk b _ hb hz
  obtain ⟨cur1, hc1⟩ := hS.blk b1 _ hb1 hz1
  have hh : w.heap[(ρ b).1]? = some (.cells cur 44 (0, 0)) := hc.heap.cells (show 44 ≠ itTy by decide)
  have hh1 : w.heap[(ρ b1).1]? = some (.cells cur1 5 (0, 0)) := hc1.heap.cells (show 5 ≠ itTy by decide)
  have hsz : cur.size = 2 := (hc.full rfl).symm
  obtain ⟨u, ux, rfl⟩ : ∃ u ux, cur = #[u, ux] := by
    obtain ⟨l⟩ := cur
    match l, hsz with
    | [u, ux], _ => exact ⟨u, ux, rfl⟩
  have hpre := hc.pre
  simp only [List.length_cons, List.length_nil, List.take_succ_cons, List.take_zero, RdL] at hpre
  obtain ⟨u1, r1, e1, o1, k1, u2, r2, e2, o2, k2, e3⟩ := hpre
  simp only [List.cons.injEq] at e1
  obtain ⟨rfl, rfl⟩ := e1
  simp only [List.cons.injEq] at e2
  obtain ⟨rfl, rfl⟩ := e2
  simp only [Rd, Nat.zero_add, Nat.mul_one] at k2
  obtain ⟨_, A, cp, rfl, q1, q2, q3, q4⟩ := k2
  have hA := q4 (by omega)
  subst hA
  have hp1 := bytCells s _ hc1.pre
  rw [bytD_length] at hp1
  refine (str_full (ρ b).1 (ρ b1).1 cp u cur1 s w h0 q1 q2 (by rw [q3]; exact hc1.size) hh hh1 hp1).mono ?_
  rintro e w' ⟨rfl, rfl⟩
  have hd : Drops H (H.set b1 none) := Drops.set H b1
  have hother : ∀ k, k ≠ (ρ b1).1 → (w.drew.freeze ⟨(ρ b1).1, 0, none⟩ s.length).heap[k]? = w.heap[k]? := fun k hk => freeze_other w.drew _ _ k hk
  have hsize : (w.drew.freeze ⟨(ρ b1).1, 0, none⟩ s.length).heap.size = w.heap.size := freeze_size w.drew _ _
  have live1 : Live ρ H (ρ b1).1 := ⟨b1, _, hb1, hz1, rfl⟩
  have hnl : ¬ Live ρ (H.set b1 none) (ρ b1).1 := fun ⟨c, bl, hcb, hzc, e⟩ => by
    by_cases hbc : b1 = c
    · subst hbc; rw [List.getElem?_set_self (List.getElem?_eq_some_iff.1 hb1).1] at hcb; cases hcb
    · exact hbc (hS.inj b1 c _ _ hb1 (hd.2 _ _ hcb) hz1 hzc e.symm)
  have hle : (ctx ρ S w H).le (ctx ρ S (w.drew.freeze ⟨(ρ b1).1, 0, none⟩ s.length) (H.set b1 none)) :=
    ⟨Nat.le_of_eq hd.1.symm, fun _ _ => rfl, fun _ h => h, fun k hk => hother k (fun e => (hS.sub k hk).2 (e ▸ live1)), fun _ h => .inl h, fun k hk => ⟨by show k < _; rw [hsize]; exact hk.1, fun ⟨c, bl, hcb, hzc, e⟩ => hk.2 ⟨c, bl, hd.2 _ _ hcb, hzc, e⟩⟩, fun k hk => hother k (fun e => hk.2 (e ▸ live1)), Nat.le_of_eq hsize.symm, (freeze_rest w.drew _ _).1, (freeze_rest w.drew _ _).2.1, (freeze_rest w.drew _ _).2.2⟩
  refine ⟨_, ρ, S, rfl, ⟨fun k hk => hle.fix k (hS.sub k hk), fun c bl hcb => hS.none c bl (hd.2 _ _ hcb), fun c bl hcb hzc => ?_, fun c c' bl bl' hcb hcb' hzc hzc' e => hS.inj c c' _ _ (hd.2 _ _ hcb) (hd.2 _ _ hcb') hzc hzc' e, hS.glob.mono (fun _ h => h) hle.keep⟩, hle, by simp [Rd]⟩
  obtain ⟨cu, hcu⟩ := hS.blk c bl (hd.2 _ _ hcb) hzc
  exact ⟨cu, hcu.heap.of (hother _ fun e => hnl ⟨c, bl, hcb, hzc, e⟩), hcu.size, hcu.pre.mono hle _ _, hcu.full⟩
theorem str_callN {H : Heap} {b : Nat} {a : D} (hb : H[b]? = some (some ⟨44, [a, .v (.slice none 0 0)], true⟩)) :
    CallJ Try.prog 21 [.ptr b 0] H (.v (.string ⟨#[]⟩)) H := by
  refine ⟨⟨_, Try.func21, by kernel_rfl, by kernel_rfl⟩, fun ρ S w vals hS hv => ?_⟩
  have hvals : vals = [.pointer (some ⟨(ρ b).1, 0, none⟩)] := by
    simp only [RdT, Rd] at hv
    obtain ⟨u, r, rfl, ⟨_, rfl⟩, rfl⟩ := hv
    rfl
  subst hvals
  have hz : 0 < (ρ b).2 := Nat.pos_of_ne_zero fun h0 => by have := hS.none b _ hb h0; cases this
  obtain ⟨cur, hc⟩ := hS.blk b _ hb hz
  have hh : w.heap[(ρ b).1]? = some (.cells cur 44 (0, 0)) := hc.heap.cells (show 44 ≠ itTy by decide)
  have hsz : cur.size = 2 := (hc.full rfl).symm
  obtain ⟨u, ux, rfl⟩ : ∃ u ux, cur = #[u, ux] := by
    obtain ⟨l⟩ := cur
    match l, hsz with
    | [u, ux], _ => exact ⟨u, ux, rfl⟩
  have hpre := hc.pre
  simp only [List.length_cons, List.length_nil, List.take_succ_cons, List.take_zero, RdL, Rd] at hpre
  obtain ⟨u1, r1, e1, o1, k1, u2, r2, e2, o2, k2, e3⟩ := hpre
  simp only [List.cons.injEq] at e1
  obtain ⟨rfl, rfl⟩ := e1
  simp only [List.cons.injEq] at e2
  obtain ⟨rfl, rfl⟩ := e2
  subst k2
  refine (str_nil (ρ b).1 u w hh).mono ?_
  rintro e w' ⟨rfl, rfl⟩
  exact ⟨_, ρ, S, rfl, hS.grow (Grow.drew w), (Grow.drew w).le (fun k hk => (hS.sub k hk).1), by simp [Rd]⟩
def entc_str : EntC := fun ds H => match ds with
  | [.ptr b 0] => match blkAt H b with
    | some ⟨ty, [a, .sl b1 0 n (.toEnd 1)], true⟩ => match blkAt H b1 with
      | some ⟨ty1, cs, f⟩ => some (.v (.string ⟨(unB cs).toArray⟩), H.set b1 none, (ty = 44 ∧ ty1 = 5 ∧ b ≠ b1) ∧ BOk n cs ∧ 0 < n)
      | none => none
    | some ⟨ty, [a, .v (.slice none 0 0)], true⟩ => some (.v (.string ⟨#[]⟩), H, ty = 44)
    | _ => none
  | _ => none
theorem entc_str_ok : EntCOk Try.prog 21 entc_str := by
  intro ds H d H' p hd hc; unfold entc_str at hd; split at hd
  · split at hd
    · rename_i hb
      split at hd
      · rename_i ty1 cs f hb1
        injection hd with hd
        simp only [Prod.mk.injEq] at hd
        obtain ⟨rfl, rfl, rfl⟩ := hd
        obtain ⟨⟨rfl, rfl, hne⟩, ⟨h1, h2⟩, h3⟩ := hc
        generalize unB cs = s at *
        subst h1; subst h2
        exact str_call (blkAt_some hb) (blkAt_some hb1) (List.length_pos_iff.1 h3) hne
      · cases hd
    · rename_i hb
      injection hd with hd
      simp only [Prod.mk.injEq] at hd
      obtain ⟨rfl, rfl, rfl⟩ := hd
      subst hc
      exact str_callN (blkAt_some hb)
    · cases hd
  · cases hd
theorem CallJ.viewK {P : Program} {f : FuncId} {ds : List D} {H H2 H' : Heap} {d : D} {keep : List KE} (h : CallJ P f ds H2 d H') (hn : (firstK keep H.length && nodupB (kO keep)) = true) (hh : viewHeapK keep H keep H2) (hds : (namesD.namesA ds).all (samB (kO keep)) = true) : CallJ P f ds H d H' := by
  simp only [Bool.and_eq_true] at hn
  obtain ⟨hf, hn⟩ := hn
  refine ⟨h.1, fun ρ S w vals hS hv => ?_⟩
  have hl2 := (viewHeapK_get _ _ hh).1
  have hl3 : H2.length = (kO keep).length := by rw [hl2]; simp [kO]
  have hlk := viewK_lek (k := H.length) hS hf hh
  refine (h.2 _ _ w vals (viewK_st (k := H.length) hS hf hn hh) (samT_rd hl3 (reρK_kO hf) ds vals (samB_ok hds) hv)).mono fun e w' ⟨v, ρ', S', he, hS', hle, hr⟩ => ⟨v, ρ', S', he, hS', ?_, hr⟩
  have ht := hlk.m.trans hle.lem
  have hN : H.length ≤ H2.length := by rw [hl2]; exact firstK_len hf
  exact ⟨Nat.le_trans hN hle.N, fun b hb => (hle.ρ b (Nat.lt_of_lt_of_le hb hN)).trans (hlk.ρ b hb), ht.S, ht.keep, ht.new, ht.fix, ht.heap, ht.size, ht.os, ht.tape, ht.output⟩
end Go.Proofs.Ytahiigfpikohgaa
end
section
namespace Go.Proofs.Ytahiigfpikohgaa
open Go.VD
set_option linter.unusedVariables false
set_option linter.unusedSimpArgs false
set_option maxRecDepth 100000
def wdT (w : Wd) : List UInt8 := bif w.q then 34 :: (w.t.data.toList ++ [34]) else w.t.data.toList
def wsA : List Wd → Bool → List UInt8
  | [], _ => []
  | w :: r, b => (bif b then [] else [32]) ++ (wdT w ++ wsA r false)
theorem wsA_app : ∀ (l : List Wd) (w : Wd) (b : Bool), wsA (l ++ [w]) b = wsA l b ++ ((bif b && decide (l.length = 0) then [] else [32]) ++ wdT w)
  | [], w, b => by simp [wsA]
  | v :: r, w, b => by
    simp only [List.cons_append, wsA, wsA_app r w false, List.append_assoc, Bool.false_and, cond_false]
    simp
theorem wsA_step {ws : List Wd} {j : Nat} (h : j < ws.length) : wsA (ws.take (j + 1)) true = wsA (ws.take j) true ++ ((bif decide (j = 0) then [] else [32]) ++ wdT (ws.getD j default)) := by
  rw [getD_take ws h, wsA_app, Bool.true_and, List.length_take, Nat.min_eq_left (by omega)]
theorem wsA_split : ∀ (a b : List Wd) (f : Bool), ∃ r, wsA (a ++ b) f = wsA a f ++ r
  | [], b, f => ⟨wsA b f, by simp [wsA]⟩
  | w :: a, b, f => by
    obtain ⟨r, h⟩ := wsA_split a b false
    exact ⟨r, by simp [wsA, h]⟩
theorem wsA_le (ws : List Wd) (j : Nat) : (wsA (ws.take j) true).length ≤ (wsA ws true).length := by
  obtain ⟨r, h⟩ := wsA_split (ws.take j) (ws.drop j) true
  rw [List.take_append_drop] at h
  rw [h, List.length_append]; omega
mutual
def fmtI : Itm → List UInt8 → List UInt8
  | .mk _ ws b ks, ind => ind ++ (wsA ws true ++ (bif b then [32, 123, 10] ++ (fmtL ks (ind ++ [32, 32]) ++ (ind ++ [125, 10])) else [59, 10]))
def fmtL : List Itm → List UInt8 → List UInt8
  | [], _ => []
  | x :: r, ind => fmtI x ind ++ fmtL r ind
end
theorem fmtI_eq (x : Itm) (ind : List UInt8) : fmtI x ind = ind ++ (wsA x.ws true ++ (bif x.bl then [32, 123, 10] ++ (fmtL x.ks (ind ++ [32, 32]) ++ (ind ++ [125, 10])) else [59, 10])) := by
  cases x; simp only [fmtI, Itm.ws, Itm.bl, Itm.ks]
theorem fmtL_app : ∀ (l r : List Itm) (ind : List UInt8), fmtL (l ++ r) ind = fmtL l ind ++ fmtL r ind
  | [], r, ind => by simp [fmtL]
  | x :: l, r, ind => by simp only [List.cons_append, fmtL, fmtL_app l r ind, List.append_assoc]
theorem fmt_step {l : List Itm} {i : Nat} (h : i < l.length) (ind : List UInt8) : fmtL (l.take (i + 1)) ind = fmtL (l.take i) ind ++ fmtI (l.getD i default) ind := by
  rw [getD_take l h, fmtL_app]; simp [fmtL]
theorem fmt_le (l : List Itm) (i : Nat) (ind : List UInt8) : (fmtL (l.take i) ind).length ≤ (fmtL l ind).length := by
  have := fmtL_app (l.take i) (l.drop i) ind
  rw [List.take_append_drop] at this
  rw [this, List.length_append]; omega
theorem app_list (a b : ByteArray) : (a ++ b).data.toList = a.data.toList ++ b.data.toList := by simp [ByteArray.data_append]
theorem wword_call (s : List UInt8) (t : ByteArray) (q : Bool) (a : D) (f : Bool) (hpre : AdrOk 0 a ∧ s.length + (wdT ⟨t, q⟩).length ≤ 140737488355328) : CallJ Try.prog 32 [.ptr 0 0, .agg [.v (.string t), .v (.bool q)]] ([some ⟨44, [a, .sl 1 0 s.length (.toEnd 1)], true⟩, some ⟨5, bytD s, f⟩]) (.tup []) ([some ⟨44, [.ptr 0 0, .sl 2 0 (s ++ wdT ⟨t, q⟩).length (.toEnd 1)], true⟩, none, some ⟨5, bytD (s ++ wdT ⟨t, q⟩), false⟩]) := by
  refine callJ_of_vck (k := 2) (call := (addCall 30 (entc_wstr) (addCall 31 (entc_wbyte) noCalls))) (lp := fun _ => none) (N := 10) T_ok mixed (addCall_ok (entc_wstr_ok) (addCall_ok (entc_wbyte_ok) noCalls_ok)) Try.func32 rfl (by decide) (by kernel_rfl) (by kernel_rfl) rfl (LpAllK.none _) ?_
  refine of_eq (B := letI z0 := (UInt8.ofBitVec (BitVec.ofFin (Fin.mk (34 : Nat) (Nat.mod_lt (Int.toNat (34 : Int)) (BitVec.ofNat._proof_1 (8 : Nat)))))); letI z17 := (unB (bytD s)); letI z7 := (z17 ++ [z0]); letI z9 := (Array.toList (ByteArray.data t)); letI z1 := ((unB (bytD z7)) ++ z9); letI z4 := (D.ptr (0 : Nat) (0 : Nat)); letI z19 := (s ++ (wdT (Wd.mk t q))); letI z16 := (Cap.toEnd (1 : Nat)); letI z2 := (Option.some (Blk.mk (44 : TypeId) [z4, (D.sl (2 : Nat) (0 : Nat) (List.length z19) z16)] Bool.true)); letI z13 := ((44 : Nat) = (44 : Nat)); letI z14 := ((5 : Nat) = (5 : Nat)); letI z3 := ((z13 ∧ (z14 ∧ ((0 : Nat) ≠ (1 : Nat)))) ∧ (AdrOk (0 : Nat) a)); letI z20 := (D.v (Value.string t)); letI z21 := (D.v (Value.bool q)); letI z5 := (Option.some (Blk.mk (51 : Nat) [z20, z21] Bool.true)); letI z6 := (Option.some (Blk.mk (5 : TypeId) (bytD z19) Bool.false)); letI z8 := (140737488355328 : Nat); letI z10 := (((0 : Nat) < (2 : Nat)) ∧ (IsStr z20)); letI z11 := (((0 : Int) ≤ (34 : Int)) ∧ ((34 : Int) < (256 : Int))); letI z12 := (D.tup ([] : List D)); letI z15 := List.length s; letI z18 := ((unB (bytD z1)) ++ [z0]); letI z22 := (AdrOk (0 : Nat) z4); (True ∧ (True ∧ ((((1 : Nat) < (2 : Nat)) ∧ (IsBool z21)) ∧ (True ∧ (pcond (!q) (True ∧ (True ∧ (z10 ∧ ((z3 ∧ ((BOk z15 (bytD s)) ∧ ((z15 + (ByteArray.size t)) ≤ z8))) ∧ (True ∧ (∃ (kp : (List KE)), (viewFin (2 : Nat) kp [(Option.some (Blk.mk (44 : Nat) [z4, (D.sl (3 : Nat) (0 : Nat) (List.length (z17 ++ z9)) z16)] Bool.true)), (Option.none), z5, (Option.some (Blk.mk (5 : Nat) (bytD (z17 ++ z9)) Bool.false))] z12 z12 [z2, (Option.none), z6]))))))) (True ∧ ((z3 ∧ (((BOk z15 (bytD s)) ∧ ((z15 + (1 : Nat)) ≤ z8)) ∧ z11)) ∧ (True ∧ (True ∧ (z10 ∧ ((((z13 ∧ (z14 ∧ ((0 : Nat) ≠ (3 : Nat)))) ∧ z22) ∧ ((BOk (List.length z7) (bytD z7)) ∧ (((List.length z7) + (ByteArray.size t)) ≤ z8))) ∧ (True ∧ ((((z13 ∧ (z14 ∧ ((0 : Nat) ≠ (4 : Nat)))) ∧ z22) ∧ (((BOk (List.length z1) (bytD z1)) ∧ (((List.length z1) + (1 : Nat)) ≤ z8)) ∧ z11)) ∧ (True ∧ (∃ (kp : (List KE)), (viewFin (2 : Nat) kp [(Option.some (Blk.mk (44 : Nat) [z4, (D.sl (5 : Nat) (0 : Nat) (List.length z18) z16)] Bool.true)), (Option.none), z5, (Option.none), (Option.none), (Option.some (Blk.mk (5 : Nat) (bytD z18) Bool.false))] z12 z12 [z2, (Option.none), z6]))))))))))))))))) (by kernel_rfl) ?_
  simp only [true_and, and_true, and_self, IsInt_lit, IsBool_lit, IsStr_lit, IsSl_lit, cellN_lit, cellL_lit, Bool.not_eq_true', Bool.not_eq_false', Bool.not_true, Bool.not_false, Int.reduceLE, Int.reduceLT, Int.reduceNeg, Nat.le_refl, Int.le_refl, Nat.reduceLT, Nat.reduceLeDiff, Nat.reduceEqDiff, D.v.injEq, D.tup.injEq, D.agg.injEq, D.ro.injEq, List.cons.injEq, Value.int.injEq, Value.bool.injEq, pcond_true, pcond_false, NamelessL, Nameless, Nat.reduceMul, Nat.reduceAdd, Nat.zero_add, Int.toNat_natCast, BOk_lit, unB_bytD]
  obtain ⟨ha, hs⟩ := hpre
  refine pcond_intro (fun hq => ⟨⟨⟨by decide, ha⟩, ?_⟩, [.nam 0, .dead, .old 3], ?_⟩) (fun hq => ?_)
  · rw [show q = false from by simpa using hq] at hs
    simp only [wdT, cond_false] at hs; rw [size_list]; exact hs
  · rw [show q = false from by simpa using hq]
    simp only [wdT, cond_false]
    refine of_eq (B := letI z0 := (s ++ (Array.toList (ByteArray.data t))); letI z1 := (D.sl (2 : Nat) (0 : Nat) (List.length z0) (Cap.toEnd (1 : Nat))); letI z2 := (Option.some (Blk.mk (5 : Nat) (bytD z0) Bool.false)); letI z3 := (D.ptr (0 : Nat) (0 : Nat)); letI z4 := ([] : List (Option Blk)); letI z5 := Bool.true = Bool.true; letI z6 := (D.tup ([] : List D)); (z5 ∧ ((((((44 : Nat) = (44 : Nat)) ∧ z5) ∧ ((True ∧ (z3 = z3)) ∧ ((True ∧ (z1 = z1)) ∧ (([] : List D) = ([] : List D))))) ∧ (((z2 = z2) ∧ (NamelessL (bytD z0))) ∧ (z4 = z4))) ∧ (True ∧ (z6 = z6))))) (by kernel_rfl) ?_
    simp [bytD_nl]
  · have hq : q = true := by simpa using hq
    subst hq
    simp only [wdT, cond_true, List.length_cons, List.length_append, List.length_nil] at hs
    have e : ∀ h, ({ toBitVec := { toFin := ⟨34, h⟩ } } : UInt8) = 34 := fun _ => rfl
    simp only [e]
    refine ⟨⟨⟨by decide, ha⟩, by omega⟩, ⟨⟨by decide, .inr rfl⟩, ?_⟩, ⟨⟨by decide, .inr rfl⟩, ?_⟩, [.nam 0, .dead, .old 5], ?_⟩
    · rw [List.length_append, size_list]; simp only [List.length_cons, List.length_nil]; omega
    · rw [List.length_append, List.length_append]; simp only [List.length_cons, List.length_nil]; omega
    · have e2 : s ++ [34] ++ t.data.toList ++ [34] = s ++ wdT ⟨t, true⟩ := by simp [wdT]
      rw [e2]
      refine of_eq (B := letI z0 := (s ++ (wdT (Wd.mk t Bool.true))); letI z1 := (D.sl (2 : Nat) (0 : Nat) (List.length z0) (Cap.toEnd (1 : Nat))); letI z2 := (Option.some (Blk.mk (5 : Nat) (bytD z0) Bool.false)); letI z3 := (D.ptr (0 : Nat) (0 : Nat)); letI z4 := ([] : List (Option Blk)); letI z5 := Bool.true = Bool.true; letI z6 := (D.tup ([] : List D)); (z5 ∧ ((((((44 : Nat) = (44 : Nat)) ∧ z5) ∧ ((True ∧ (z3 = z3)) ∧ ((True ∧ (z1 = z1)) ∧ (([] : List D) = ([] : List D))))) ∧ (((z2 = z2) ∧ (NamelessL (bytD z0))) ∧ (z4 = z4))) ∧ (True ∧ (z6 = z6))))) (by kernel_rfl) ?_
      simp [bytD_nl]
def entc_wword : EntC := fun ds H => match ds with
  | [.ptr b 0, .agg [.v (.string t), .v (.bool q)]] => match blkAt H b with
    | some ⟨ty, [a, .sl b1 0 n (.toEnd 1)], true⟩ => match blkAt H b1 with
      | some ⟨ty1, cs, f⟩ => some (.tup [], (H.set b (some ⟨ty, [.ptr b 0, .sl H.length 0 (unB cs ++ wdT ⟨t, q⟩).length (.toEnd 1)], true⟩)).set b1 none ++ [some ⟨ty1, bytD (unB cs ++ wdT ⟨t, q⟩), false⟩],
          ((ty = 44 ∧ ty1 = 5 ∧ b ≠ b1) ∧ AdrOk b a) ∧ BOk n cs ∧ n + (wdT ⟨t, q⟩).length ≤ 140737488355328)
      | none => none
    | _ => none
  | _ => none
theorem entc_wword_ok : EntCOk Try.prog 32 entc_wword := by
  intro ds H d H' p hd hc; unfold entc_wword at hd; split at hd
  · rename_i b t q
    split at hd
    · rename_i ty a b1 n hb
      split at hd
      · rename_i ty1 cs f hb1
        injection hd with hd
        simp only [Prod.mk.injEq] at hd
        obtain ⟨rfl, rfl, rfl⟩ := hd
        obtain ⟨⟨⟨rfl, rfl, hne⟩, ha⟩, ⟨h1, h2⟩, h3⟩ := hc
        generalize unB cs = s at *
        subst h1; subst h2
        exact bld_frame (fun a' ha' => wword_call s t q a' f ⟨ha', h3⟩) (by simp [namesD.namesA, namesD]) (fun g => rfl) (fun g => rfl) ha (blkAt_some hb) (blkAt_some hb1) hne
      · cases hd
    · cases hd
  · cases hd
theorem bld_frame1 {f : FuncId} {H : Heap} {b b1 : Nat} {d : D} {fl fl' : Bool} {s s' : List UInt8} {plain : List D}
    (small : CallJ Try.prog f (.ptr 0 0 :: plain) [some ⟨44, [.ptr 0 0, .sl 1 0 s.length (.toEnd 1)], true⟩, some ⟨5, bytD s, fl⟩] d [some ⟨44, [.ptr 0 0, .sl 2 0 s'.length (.toEnd 1)], true⟩, none, some ⟨5, bytD s', fl'⟩])
    (h1 : namesD.namesA plain = []) (h2 : ∀ g, rnL g plain = plain) (h3 : ∀ g, rnD g d = d)
    (hb : H[b]? = some (some ⟨44, [.ptr b 0, .sl b1 0 s.length (.toEnd 1)], true⟩)) (hb1 : H[b1]? = some (some ⟨5, bytD s, fl⟩)) (hne : b ≠ b1) :
    CallJ Try.prog f (.ptr b 0 :: plain) H d ((H.set b (some ⟨44, [.ptr b 0, .sl H.length 0 s'.length (.toEnd 1)], true⟩)).set b1 none ++ [some ⟨5, bytD s', fl'⟩]) := by
  have hlb := (List.getElem?_eq_some_iff.1 hb).1
  have hlb1 := (List.getElem?_eq_some_iff.1 hb1).1
  have g0 : gOf [b, b1] H.length 0 = b := by simp [gOf]
  have g1 : gOf [b, b1] H.length 1 = b1 := by simp [gOf]
  have g2 : gOf [b, b1] H.length 2 = H.length := by simp [gOf]
  have key := small.frames (σ := [b, b1]) (B := H) rfl (by simpa using hne) (by simp [hlb, hlb1]) (fun i blk hi => by
    match i, hi with
    | 0, hi =>
      simp only [List.getElem?_cons_zero, Option.some.injEq] at hi; subst hi
      refine ⟨b, rfl, ?_, ?_⟩
      · rw [hb]; simp only [rnB, rnL, rnD, g0, g1]
      · simp [namesD.namesA, namesD]
    | 1, hi =>
      simp only [List.getElem?_cons_succ, List.getElem?_cons_zero, Option.some.injEq] at hi; subst hi
      exact ⟨b1, rfl, by rw [hb1]; simp only [rnB, bytD_rn], by rw [bytD_names]; simp⟩
    | i + 2, hi => simp at hi) (by simp [namesD.namesA, namesD, h1])
  have e : frH [b, b1] H [some ⟨44, [.ptr 0 0, .sl 2 0 s'.length (.toEnd 1)], true⟩, none, some ⟨5, bytD s', fl'⟩] =
      (H.set b (some ⟨44, [.ptr b 0, .sl H.length 0 s'.length (.toEnd 1)], true⟩)).set b1 none ++ [some ⟨5, bytD s', fl'⟩] := by
    simp only [frH, List.map_cons, List.map_nil, Option.map_some, Option.map_none, rnB, rnL, rnD, bytD_rn, g0, g2, setAt, List.length_cons, List.length_nil, List.drop_succ_cons, List.drop_zero]
  rw [e] at key
  simpa only [rnL, rnD, g0, h2, h3] using key
def WriteIH (h : Nat) : Prop := ∀ (l : List Itm) (ind : ByteArray) (s : List UInt8) (a : D), hL l < h → (okL l ∧ l.length ≤ maxLen) → AdrOk 0 a → (l ≠ [] ∨ a = .ptr 0 0) → s.length + (fmtL l ind.data.toList).length ≤ 140737488355328 →
  CallJ Try.prog 20 [.ptr 0 0, .ro l.length (itemsD l), .v (.string ind)]
    [some ⟨44, [a, .sl 1 0 s.length (.toEnd 1)], true⟩, some ⟨5, bytD s, false⟩] (.tup [])
    [some ⟨44, [.ptr 0 0, .sl 2 0 (s ++ fmtL l ind.data.toList).length (.toEnd 1)], true⟩, none, some ⟨5, bytD (s ++ fmtL l ind.data.toList), false⟩]
theorem items_rn (g : Nat → Nat) (n : Nat) (l : List Itm) (ind : ByteArray) : rnL g [.ro n (itemsD l), .v (.string ind)] = [.ro n (itemsD l), .v (.string ind)] := rfl
def entc_writeR (h : Nat) : EntC := fun ds H => match ds with
  | [.ptr b 0, .ro k ys, .v (.string ind)] => match blkAt H b with
    | some ⟨ty, [.ptr b' 0, .sl b1 0 n (.toEnd 1)], true⟩ => match blkAt H b1 with
      | some ⟨ty1, cs, false⟩ => some (.tup [], (H.set b (some ⟨ty, [.ptr b 0, .sl H.length 0 (unB cs ++ fmtL (unI ys) ind.data.toList).length (.toEnd 1)], true⟩)).set b1 none ++ [some ⟨ty1, bytD (unB cs ++ fmtL (unI ys) ind.data.toList), false⟩],
          ((ty = 44 ∧ ty1 = 5 ∧ b ≠ b1) ∧ b' = b) ∧ (BOk n cs ∧ n + (fmtL (unI ys) ind.data.toList).length ≤ 140737488355328) ∧ IOk k ys ∧ hL (unI ys) < h)
      | _ => none
    | _ => none
  | _ => none
theorem entc_writeR_ok (h : Nat) (ih : WriteIH h) : EntCOk Try.prog 20 (entc_writeR h) := by
  intro ds H d H' p hd hc; unfold entc_writeR at hd; split at hd
  · rename_i b k ys ind
    split at hd
    · rename_i ty b' b1 n hb
      split at hd
      · rename_i ty1 cs hb1
        injection hd with hd
        simp only [Prod.mk.injEq] at hd
        obtain ⟨rfl, rfl, rfl⟩ := hd
        obtain ⟨⟨⟨rfl, rfl, hne⟩, rfl⟩, ⟨⟨h1, h2⟩, h3⟩, ⟨⟨g1, g2⟩, g3, g4⟩, hh⟩ := hc
        generalize unB cs = s at *
        generalize unI ys = l at *
        subst h1; subst h2; subst g1; subst g2
        have hlb := (List.getElem?_eq_some_iff.1 (blkAt_some hb)).1
        have small := ih l ind s (.ptr 0 0) hh ⟨g4, g3⟩ (.inr rfl) (.inr rfl) h3
        exact bld_frame1 small (by simp [namesD.namesA, namesD]) (fun g => rfl) (fun g => rfl) (blkAt_some hb) (blkAt_some hb1) hne
      · cases hd
    · cases hd
  · cases hd
end Go.Proofs.Ytahiigfpikohgaa
end
