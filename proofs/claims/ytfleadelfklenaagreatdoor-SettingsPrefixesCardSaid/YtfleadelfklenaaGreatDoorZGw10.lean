import Derived.Test.YtfleadelfklenaaGreatDoorRows
import Derived.LaidByTextLater
import Derived.SevenTiedAt
import Derived.LaidSub
import Derived.LaidOnce
import GoSem.ClaimSeven
import Derived.Test.YtfleadelfklenaaGreatDoorZGw9
section
namespace Go.Proofs.YtfleadelfklenaaGreatDoor
open Go
set_option maxRecDepth 100000
theorem seatTie1 : Tryz.prog.laidByTextLater [("math/bits.deBruijn32tab", Rows.laid_math_bits_deBruijn32tab), ("math/bits.deBruijn64tab", Rows.laid_math_bits_deBruijn64tab), ("internal/strconv.uint64pow10", Rows.laid_internal_strconv_uint64pow10), ("unicode.White_Space", Rows.laid_unicode_White_Space), ("strings.asciiSpace", Rows.laid_strings_asciiSpace)] [.data, .data, .data, .listed, .data] true :=
  Program.laidByTextLater_by_one 48 8 257 (by kernel_rfl) (by kernel_rfl) (by kernel_rfl) (by kernel_rfl) (by kernel_rfl) (by kernel_rfl) (fun _ _ => by kernel_rfl)
theorem noOwnUnsafe : Tryz.pinned.checked.prog.headLifts.contains "ownunsafe" = false := by kernel_rfl
theorem tie : Tryz.prog.laidByTextLater [("math/bits.deBruijn32tab", Rows.laid_math_bits_deBruijn32tab), ("math/bits.deBruijn64tab", Rows.laid_math_bits_deBruijn64tab), ("internal/strconv.uint64pow10", Rows.laid_internal_strconv_uint64pow10), ("unicode.White_Space", Rows.laid_unicode_White_Space), ("strings.asciiSpace", Rows.laid_strings_asciiSpace)] [.data, .data, .data, .listed, .data] true :=
  Program.laidByTextLater.sub seatTie1 ["math/bits.deBruijn32tab", "math/bits.deBruijn64tab", "internal/strconv.uint64pow10", "unicode.White_Space", "strings.asciiSpace"] (by kernel_rfl) (by kernel_rfl)
theorem settingsPrefixes_row_tie : Rows.settingsPrefixesRow.laidByTextAt .later Tryz.pinned [.data, .data, .data, .listed, .data] true :=
  OpenClaim.laidByTextAt_later rfl rfl tie noOwnUnsafe
end Go.Proofs.YtfleadelfklenaaGreatDoor
end
section
namespace Go.Proofs.YtfleadelfklenaaGreatDoor
namespace Rows
def settingsPrefixesCard : Claim7 := { stood := { row := settingsPrefixesRow, standIns := [], harness := (true, "84eb64bff29268666450e30c096e1e9ce122325ab32f2f701b63d6c5aafd19f8"), looks := false }, kinds := [], alts := [], laidByText := true, laidKinds := [.data, .data, .data, .listed, .data], laidTests := true, laidLooks := .later }
def SettingsPrefixesCardSaid : Prop := Claim7.holds Tryz.pinned (.plain (OpenSpec.ofChange settingsPrefixesSpec)) settingsPrefixesCard
end Rows
end Go.Proofs.YtfleadelfklenaaGreatDoor
end
section
namespace Go.VD
set_option linter.unusedVariables false
set_option linter.unusedSimpArgs false
structure Ctx.lem (E E' : Ctx) : Prop where
  S : ∀ k, E.S k → E'.S k
  keep : ∀ k, E.S k → E'.w.heap[k]? = E.w.heap[k]?
  new : ∀ k, E'.S k → E.S k ∨ Live E.ρ E.H k ∨ E.w.heap.size ≤ k
  fix : ∀ k, Fix E k → Fix E' k
  heap : ∀ k, Fix E k → E'.w.heap[k]? = E.w.heap[k]?
  size : E.w.heap.size ≤ E'.w.heap.size
  os : E'.w.os = E.w.os
  tape : E'.w.tape = E.w.tape
  output : E'.w.output = E.w.output
theorem Ctx.le.lem {E E' : Ctx} (h : E.le E') : E.lem E' := ⟨h.S, h.keep, h.new, h.fix, h.heap, h.size, h.os, h.tape, h.output⟩
theorem Ctx.lem.refl (E : Ctx) : E.lem E := (Ctx.le.refl E).lem
theorem Ctx.lem.trans {E E' E'' : Ctx} (h : E.lem E') (k : E'.lem E'') : E.lem E'' :=
  ⟨fun x hx => k.S x (h.S x hx), fun x hx => (k.keep x (h.S x hx)).trans (h.keep x hx),
    fun x hx => by
      rcases k.new x hx with h1 | h1 | h1
      · exact h.new x h1
      · by_cases hl : Live E.ρ E.H x
        · exact .inr (.inl hl)
        · rcases Nat.lt_or_ge x E.w.heap.size with h2 | h2
          · exact absurd h1 (h.fix x ⟨h2, hl⟩).2
          · exact .inr (.inr h2)
      · exact .inr (.inr (Nat.le_trans h.size h1)),
    fun x hx => k.fix x (h.fix x hx), fun x hx => (k.heap x (h.fix x hx)).trans (h.heap x hx),
    Nat.le_trans h.size k.size, k.os.trans h.os, k.tape.trans h.tape, k.output.trans h.output⟩
def DWP (P : Program) (nt : Nat) (c : Code) (Q : Exit → Env → Heap → Prop) (env : Env) (H : Heap) : Prop :=
  ∀ ρ S w a, Inv nt ρ S w H env a → c.wp P (fun e a' w' => ∃ env' H' ρ' S', Q e env' H' ∧ Inv nt ρ' S' w' H' env' a' ∧ (ctx ρ S w H).lem (ctx ρ' S' w' H')) a w
theorem DW.dwp {P : Program} {nt : Nat} {c : Code} {Q : Exit → Env → Heap → Prop} {env : Env} {H : Heap} (h : DW P nt c Q env H) : DWP P nt c Q env H :=
  fun ρ S w a hi => wp_mono (h ρ S w a hi) fun e a' w' ⟨env', H', ρ', S', h1, h2, h3⟩ => ⟨env', H', ρ', S', h1, h2, h3.lem⟩
theorem DWP.mono {P : Program} {nt : Nat} {c : Code} {Q Q' : Exit → Env → Heap → Prop} {env : Env} {H : Heap} (h : DWP P nt c Q env H) (hq : ∀ e env H, Q e env H → Q' e env H) : DWP P nt c Q' env H :=
  fun ρ S w a hi => wp_mono (h ρ S w a hi) fun e a' w' ⟨env', H', ρ', S', h1, h2⟩ => ⟨env', H', ρ', S', hq _ _ _ h1, h2⟩
def View (nt : Nat) (env : Env) (H : Heap) (env2 : Env) (H2 : Heap) : Prop :=
  ∀ ρ S w a, Inv nt ρ S w H env a → ∃ ρ' S', Inv nt ρ' S' w H2 env2 a ∧ (ctx ρ S w H).lem (ctx ρ' S' w H2)
theorem DWP.view {P : Program} {nt : Nat} {c : Code} {Q : Exit → Env → Heap → Prop} {env env2 : Env} {H H2 : Heap} (v : View nt env H env2 H2) (h : DWP P nt c Q env2 H2) : DWP P nt c Q env H := by
  intro ρ S w a hi
  obtain ⟨ρ', S', hi', hle⟩ := v ρ S w a hi
  exact wp_mono (h ρ' S' w a hi') fun e a' w' ⟨env', H', ρ'', S'', h1, h2, h3⟩ => ⟨env', H', ρ'', S'', h1, h2, hle.trans h3⟩
theorem DWP.post {P : Program} {nt : Nat} {c : Code} {Q : Exit → Env → Heap → Prop} {env : Env} {H : Heap} (h : DWP P nt c (fun e env' H' => ∃ env2 H2, View nt env' H' env2 H2 ∧ Q e env2 H2) env H) : DWP P nt c Q env H := by
  intro ρ S w a hi
  refine wp_mono (h ρ S w a hi) fun e a' w' ⟨env', H', ρ', S', ⟨env2, H2, v, hq⟩, h2, h3⟩ => ?_
  obtain ⟨ρ'', S'', hi', hle⟩ := v ρ' S' w' a' h2
  exact ⟨env2, H2, ρ'', S'', hq, hi', h3.trans hle⟩
theorem DWP.loop {P : Program} {nt : Nat} {α : Type} (J : α → Prop) (I : α → Env) (HI : α → Heap) (μ : α → Nat) {c : Code} {Q : Exit → Env → Heap → Prop} (x0 : α) (h0 : J x0)
    (round : ∀ x, J x → DWP P nt c (thenQ (fun env' H' => ∃ y, μ y < μ x ∧ J y ∧ View nt env' H' (I y) (HI y)) Q) (I x) (HI x)) : DWP P nt (.loop c) Q (I x0) (HI x0) := by
  intro ρ S w a hi
  refine wp_loop_ghost (fun n a' w' => ∃ x ρ' S', μ x = n ∧ J x ∧ Inv nt ρ' S' w' (HI x) (I x) a' ∧ (ctx ρ S w (HI x0)).lem (ctx ρ' S' w' (HI x))) (μ x0) ⟨x0, ρ, S, rfl, h0, hi, Ctx.lem.refl _⟩ ?_
  rintro n a' w' ⟨x, ρ', S', rfl, hx, hi', hle⟩
  refine wp_mono (round x hx ρ' S' w' a' hi') fun e a'' w'' ⟨env', H', ρ'', S'', h1, h2, h3⟩ => ?_
  cases e with
  | normal =>
    obtain ⟨y, hy, hJ, v⟩ := h1
    obtain ⟨ρ3, S3, hi3, hle3⟩ := v ρ'' S'' w'' a'' h2
    exact ⟨μ y, hy, y, ρ3, S3, rfl, hJ, hi3, (hle.trans h3).trans hle3⟩
  | _ => exact ⟨env', H', ρ'', S'', h1, h2, hle.trans h3⟩
def idxOf (keep : List (Option Nat)) (b : Nat) : Option Nat := go keep 0
where go : List (Option Nat) → Nat → Option Nat
  | [], _ => none
  | some c :: r, i => bif Nat.beq c b then some i else go r (i + 1)
  | none :: r, i => go r (i + 1)
mutual
def viewD (keep : List (Option Nat)) (H : Heap) : D → Option (D × Prop)
  | .v x => some (.v x, True)
  | .ro n xs => some (.ro n xs, True)
  | .rp xs j => some (.rp xs j, True)
  | .sl b off n c => match idxOf keep b with
    | some i => some (.sl i off n c, True)
    | none => sealD H (.sl b off n c)
  | .ptr b off => match idxOf keep b with
    | some i => some (.ptr i off, True)
    | none => sealD H (.ptr b off)
  | .agg xs => match viewL keep H xs with
    | some (ys, c) => some (.agg ys, c)
    | none => none
  | .tup xs => match viewL keep H xs with
    | some (ys, c) => some (.tup ys, c)
    | none => none
  | .ifc t d => match viewD keep H d with
    | some (e, c) => some (.ifc t e, c)
    | none => none
  | .fn f k caps => match viewL keep H caps with
    | some (ys, c) => some (.fn f k ys, c)
    | none => none
def viewL (keep : List (Option Nat)) (H : Heap) : List D → Option (List D × Prop)
  | [] => some ([], True)
  | d :: ds => match viewD keep H d, viewL keep H ds with
    | some (e, c), some (es, cs) => some (e :: es, c ∧ cs)
    | _, _ => none
end
def nilOk (keep : List (Option Nat)) : D → D → Prop
  | .v (.slice none 0 0), .sl i 0 0 (.toEnd _) => match keep[i]? with
    | some none => True
    | _ => False
  | _, _ => False
def isNilSl : D → D → Bool
  | .v (.slice none 0 0), .sl _ 0 0 (.toEnd _) => true
  | _, _ => false
def viewOk (keep : List (Option Nat)) (H : Heap) (d d2 : D) : Prop :=
  bif isNilSl d d2 then nilOk keep d d2 else (match viewD keep H d with
    | some (e, c) => c ∧ e = d2
    | none => False)
def viewEnv (keep : List (Option Nat)) (H : Heap) (env : Env) : Env → Prop
  | [] => True
  | (t, d2) :: r => (match env.lookup t with
    | some d => viewOk keep H d d2
    | none => False) ∧ viewEnv keep H env r
def viewHeap (H : Heap) : List (Option Nat) → Heap → Prop
  | [], H2 => H2 = []
  | some b :: ks, x :: xs => (match blkRaw H b with
    | some blk => x = some blk ∧ NamelessL blk.cs
    | none => False) ∧ viewHeap H ks xs
  | none :: ks, some ⟨_, cs, _⟩ :: xs => cs = [] ∧ viewHeap H ks xs
  | _, _ => False
def nodupB : List (Option Nat) → Bool
  | [] => true
  | some b :: r => !(r.contains (some b)) && nodupB r
  | none :: r => nodupB r
def viewAll (keep : List (Option Nat)) (env : Env) (H : Heap) (env2 : Env) (H2 : Heap) : Prop := nodupB keep = true ∧ viewHeap H keep H2 ∧ viewEnv keep H env env2
section
variable {keep : List (Option Nat)} {H H2 : Heap} {ρ : Nat → Nat × Nat} {S : Nat → Prop} {w : World}
theorem idxOf_go : ∀ (l : List (Option Nat)) (k i b : Nat), idxOf.go b l k = some i → ∃ j, i = k + j ∧ l[j]? = some (some b)
  | [], k, i, b, h => by simp [idxOf.go] at h
  | some c :: r, k, i, b, h => by
    simp only [idxOf.go] at h
    cases hc : Nat.beq c b with
    | true =>
      rw [hc] at h
      simp only [cond_true, Option.some.injEq] at h
      exact ⟨0, by omega, by simp [Nat.eq_of_beq_eq_true hc]⟩
    | false =>
      rw [hc] at h
      obtain ⟨j, h1, h2⟩ := idxOf_go r (k + 1) i b h
      exact ⟨j + 1, by omega, by simpa using h2⟩
  | none :: r, k, i, b, h => by
    simp only [idxOf.go] at h
    obtain ⟨j, h1, h2⟩ := idxOf_go r (k + 1) i b h
    exact ⟨j + 1, by omega, by simpa using h2⟩
theorem idxOf_some {i b : Nat} (h : idxOf keep b = some i) : keep[i]? = some (some b) := by
  obtain ⟨j, h1, h2⟩ := idxOf_go keep 0 i b h
  rw [h1, Nat.zero_add]; exact h2
theorem idxOf_go_none : ∀ (l : List (Option Nat)) (k b : Nat), idxOf.go b l k = none → some b ∉ l
  | [], k, b, h => by simp
  | some c :: r, k, b, h => by
    simp only [idxOf.go] at h
    cases hc : Nat.beq c b with
    | true => rw [hc] at h; cases h
    | false =>
      rw [hc] at h
      have := idxOf_go_none r (k + 1) b h
      have hne : b ≠ c := fun e => by subst e; simp at hc
      simp [this, hne]
  | none :: r, k, b, h => by
    simp only [idxOf.go] at h
    have := idxOf_go_none r (k + 1) b h
    simp [this]
theorem nodup_get : ∀ (l : List (Option Nat)) (i j b : Nat), nodupB l = true → l[i]? = some (some b) → l[j]? = some (some b) → i = j
  | [], i, j, b, _, h, _ => by simp at h
  | x :: r, i, j, b, hn, hi, hj => by
    have hr : nodupB r = true := by
      cases x with
      | none => simpa [nodupB] using hn
      | some c => simp only [nodupB, Bool.and_eq_true] at hn; exact hn.2
    cases i with
    | zero =>
      cases j with
      | zero => rfl
      | succ j =>
        simp at hi hj
        subst hi
        simp only [nodupB, Bool.and_eq_true, Bool.not_eq_true'] at hn
        have : some b ∈ r := List.mem_of_getElem? hj
        have h1 := hn.1
        simp [this] at h1
    | succ i =>
      cases j with
      | zero =>
        simp at hi hj
        subst hj
        simp only [nodupB, Bool.and_eq_true, Bool.not_eq_true'] at hn
        have : some b ∈ r := List.mem_of_getElem? hi
        have h1 := hn.1
        simp [this] at h1
      | succ j => rw [nodup_get r i j b hr (by simpa using hi) (by simpa using hj)]
theorem viewHeap_get : ∀ (ks : List (Option Nat)) (H2 : Heap), viewHeap H ks H2 → H2.length = ks.length ∧ ∀ (i : Nat) (blk : Blk), H2[i]? = some (some blk) → (∃ b, ks[i]? = some (some b) ∧ H[b]? = some (some blk) ∧ NamelessL blk.cs) ∨ (ks[i]? = some none ∧ blk.cs = [])
  | [], H2, h => by simp only [viewHeap] at h; subst h; simp
  | some b :: ks, [], h => by simp [viewHeap] at h
  | some b :: ks, x :: xs, h => by
    simp only [viewHeap] at h
    obtain ⟨h1, h2⟩ := h
    obtain ⟨hl, ih⟩ := viewHeap_get ks xs h2
    split at h1
    · rename_i blk0 hb
      obtain ⟨rfl, hn⟩ := h1
      refine ⟨by simp [hl], fun i blk hi => ?_⟩
      cases i with
      | zero =>
        simp at hi; subst hi
        exact .inl ⟨b, by simp, blkRaw_some hb, hn⟩
      | succ i => simpa using ih i blk (by simpa using hi)
    · exact h1.elim
  | none :: ks, [], h => by simp [viewHeap] at h
  | none :: ks, none :: xs, h => by simp [viewHeap] at h
  | none :: ks, some ⟨ty, cs, f⟩ :: xs, h => by
    simp only [viewHeap] at h
    obtain ⟨h1, h2⟩ := h
    obtain ⟨hl, ih⟩ := viewHeap_get ks xs h2
    refine ⟨by simp [hl], fun i blk hi => ?_⟩
    cases i with
    | zero => simp at hi; subst hi; exact .inr ⟨by simp, h1⟩
    | succ i => simpa using ih i blk (by simpa using hi)
def reρ (keep : List (Option Nat)) (ρ : Nat → Nat × Nat) : Nat → Nat × Nat := fun i => match keep[i]? with
  | some (some b) => ρ b
  | _ => (0, 0)
def reS (keep : List (Option Nat)) (ρ : Nat → Nat × Nat) (H : Heap) (S : Nat → Prop) : Nat → Prop := fun k => S k ∨ ∃ b blk, H[b]? = some (some blk) ∧ some b ∉ keep ∧ 0 < (ρ b).2 ∧ (ρ b).1 = k
theorem view_live (hh : viewHeap H keep H2) {k : Nat} (h : Live (reρ keep ρ) H2 k) : ∃ b blk, some b ∈ keep ∧ H[b]? = some (some blk) ∧ 0 < (ρ b).2 ∧ (ρ b).1 = k := by
  obtain ⟨i, blk, hi, hz, hk⟩ := h
  rcases (viewHeap_get _ _ hh).2 i blk hi with ⟨b, h1, h2, _⟩ | ⟨h1, _⟩
  · simp only [reρ, h1] at hz hk
    exact ⟨b, blk, List.mem_of_getElem? h1, h2, hz, hk⟩
  · simp only [reρ, h1] at hz
    exact absurd hz (by simp)
theorem view_lem (hS : St ρ S w H) (hh : viewHeap H keep H2) : (ctx ρ S w H).lem (ctx (reρ keep ρ) (reS keep ρ H S) w H2) :=
  ⟨fun k h => .inl h, fun _ _ => rfl, fun k h => by
    rcases h with h | ⟨b, blk, h1, _, h2, h3⟩
    · exact .inl h
    · exact .inr (.inl ⟨b, blk, h1, h2, h3⟩),
   fun k h => ⟨h.1, fun hl => by
    obtain ⟨b, blk, _, h1, h2, h3⟩ := view_live hh hl
    exact h.2 ⟨b, blk, h1, h2, h3⟩⟩, fun _ _ => rfl, Nat.le_refl _, rfl, rfl, rfl⟩
theorem view_st (hS : St ρ S w H) (hn : nodupB keep = true) (hh : viewHeap H keep H2) : St (reρ keep ρ) (reS keep ρ H S) w H2 := by
  refine ⟨fun k hk => ?_, fun i blk hi hz => ?_, fun i blk hi hz => ?_, fun i j bi bj hi hj hz hz' he => ?_, hS.glob.mono (fun _ h => .inl h) fun _ _ => rfl⟩
  · rcases hk with hk | ⟨b, blk, h1, h2, h3, h4⟩
    · exact ⟨(hS.sub k hk).1, fun hl => by
        obtain ⟨b, blk, _, h1, h2, h3⟩ := view_live hh hl
        exact (hS.sub k hk).2 ⟨b, blk, h1, h2, h3⟩⟩
    · refine ⟨hS.lt ⟨b, blk, h1, h3, h4⟩, fun hl => ?_⟩
      obtain ⟨b', blk', hm, h1', h3', h4'⟩ := view_live hh hl
      have := hS.inj b b' _ _ h1 h1' h3 h3' (h4.trans h4'.symm)
      subst this
      exact h2 hm
  · rcases (viewHeap_get _ _ hh).2 i blk hi with ⟨b, h1, h2, _⟩ | ⟨_, h2⟩
    · simp only [reρ, h1] at hz
      exact hS.none b blk h2 hz
    · exact h2
  · rcases (viewHeap_get _ _ hh).2 i blk hi with ⟨b, h1, h2, h3⟩ | ⟨h1, _⟩
    · simp only [reρ, h1] at hz ⊢
      obtain ⟨cur, hc⟩ := hS.blk b blk h2 hz
      refine ⟨cur, hc.heap, hc.size, ?_, hc.full⟩
      have hp := hc.pre
      have key : ∀ (ds : List D) (us : List Value), NamelessL ds → RdL (ctx ρ S w H) ds us → RdL (ctx (reρ keep ρ) (reS keep ρ H S) w H2) ds us := by
        intro ds
        induction ds with
        | nil => intro us _ h; simpa only [RdL] using h
        | cons d ds ih =>
          intro us hn h
          simp only [NamelessL] at hn
          simp only [RdL] at h ⊢
          obtain ⟨u, r, e, ho, hd, hr⟩ := h
          exact ⟨u, r, e, ho, hd.moveS (fun k hk => .inl hk) hn.1, ih r hn.2 hr⟩
      exact key _ _ h3 hp
    · simp only [reρ, h1] at hz
      exact absurd hz (by simp)
  · rcases (viewHeap_get _ _ hh).2 i bi hi with ⟨b, h1, h2, _⟩ | ⟨h1, _⟩
    · rcases (viewHeap_get _ _ hh).2 j bj hj with ⟨c, h1', h2', _⟩ | ⟨h1', _⟩
      · simp only [reρ, h1] at hz he
        simp only [reρ, h1'] at hz' he
        have := hS.inj b c _ _ h2 h2' hz hz' he
        subst this
        exact nodup_get keep i j b hn h1 h1'
      · simp only [reρ, h1'] at hz'
        exact absurd hz' (by simp)
    · simp only [reρ, h1] at hz
      exact absurd hz (by simp)
theorem seal_rd {b : Nat} (hS : St ρ S w H) (hb : some b ∉ keep) {d e : D} {c : Prop} {u : Value} (hd : (∃ off n cp, d = .sl b off n cp) ∨ ∃ off, d = .ptr b off) (h : sealD H d = some (e, c)) (hc : c) (hr : Rd (ctx ρ S w H) d u) : Rd (ctx (reρ keep ρ) (reS keep ρ H S) w H2) e u := by
  have main : ∀ blk, H[b]? = some (some blk) → (∀ b' blk', H[b']? = some (some blk') → 0 < (ρ b').2 → True) → True := fun _ _ _ => trivial
  have hT : ∀ (H0 : Heap), (∀ x, H0[x]? = if x = b then H[b]? else none) → True := fun _ _ => trivial
  let Hb : Heap := (List.range (b + 1)).map fun x => if x = b then (H[b]?).join else none
  have hget : ∀ x blk, Hb[x]? = some (some blk) → x = b ∧ H[b]? = some (some blk) := by
    intro x blk hx
    simp only [Hb, List.getElem?_map] at hx
    cases hr : (List.range (b + 1))[x]? with
    | none => simp [hr] at hx
    | some y =>
      have hy : y = x := by
        have := List.getElem?_eq_some_iff.1 hr
        obtain ⟨_, h2⟩ := this
        simpa using h2.symm
      subst hy
      simp only [hr, Option.map_some, Option.some.injEq] at hx
      by_cases hyb : y = b
      · subst hyb
        simp only [if_true] at hx
        cases hh : H[y]? with
        | none => simp [hh] at hx
        | some o => simp [hh] at hx; subst hx; exact ⟨rfl, rfl⟩
      · simp [hyb] at hx
  have hblk : blkAt Hb b = blkAt H b := by
    unfold blkAt
    have : Hb[b]? = some ((H[b]?).join) := by
      simp [Hb]
    rw [this]
    cases hh : H[b]? with
    | none => rfl
    | some o => cases o <;> rfl
  have hSb : St ρ S w Hb := by
    refine ⟨fun k hk => ⟨(hS.sub k hk).1, fun ⟨x, blk, hx, hz, e⟩ => ?_⟩, fun x blk hx hz => ?_, fun x blk hx hz => ?_, fun x y bx by_ hx hy hzx hzy e => ?_, hS.glob⟩
    · obtain ⟨rfl, h⟩ := hget x blk hx
      exact (hS.sub k hk).2 ⟨_, blk, h, hz, e⟩
    · obtain ⟨rfl, h⟩ := hget x blk hx
      exact hS.none _ blk h hz
    · obtain ⟨rfl, hx2⟩ := hget x blk hx
      obtain ⟨cur, hcur⟩ := hS.blk _ blk hx2 hz
      have hn : NamelessL blk.cs := by
        have hbb : blkAt H x = some blk := by
          cases hbb0 : blkAt H x with
          | none =>
            rcases hd with ⟨off, n, cp, rfl⟩ | ⟨off, rfl⟩
            · simp only [sealD, hbb0] at h; cases h
            · simp only [sealD, hbb0] at h; cases h
          | some blk' =>
            have := blkAt_some hbb0
            rw [hx2] at this
            injection this with this; injection this with this; rw [this]
        rcases hd with ⟨off, n, cp, rfl⟩ | ⟨off, rfl⟩
        · simp only [sealD, hbb] at h
          cases cp <;> (simp only at h; obtain ⟨_, rfl⟩ := pair_inj h; exact hc.1)
        · simp only [sealD, hbb] at h
          obtain ⟨_, rfl⟩ := pair_inj h
          exact hc.1
      refine ⟨cur, hcur.heap, hcur.size, ?_, hcur.full⟩
      have key : ∀ (ds : List D) (us : List Value), NamelessL ds → RdL (ctx ρ S w H) ds us → RdL (ctx ρ S w Hb) ds us := by
        intro ds
        induction ds with
        | nil => intro us _ h; simpa only [RdL] using h
        | cons d ds ih =>
          intro us hn h
          simp only [NamelessL] at hn
          simp only [RdL] at h ⊢
          obtain ⟨u, r, e, ho, hd, hr⟩ := h
          exact ⟨u, r, e, ho, hd.move hn.1, ih r hn.2 hr⟩
      exact key _ _ hn hcur.pre
    · obtain ⟨rfl, _⟩ := hget x bx hx
      obtain ⟨rfl, _⟩ := hget y by_ hy
      rfl
  have hlive : ∀ x blk, Hb[x]? = some (some blk) → 0 < (ρ x).2 → reS keep ρ H S (ρ x).1 := fun x blk hx hz => by
    obtain ⟨rfl, h⟩ := hget x blk hx
    exact .inr ⟨_, blk, h, hb, hz, rfl⟩
  have hlen : b < Hb.length := by simp [Hb]
  have hr' : Rd (ctx ρ S w Hb) d u := by
    rcases hd with ⟨off, n, cp, rfl⟩ | ⟨off, rfl⟩
    · cases cp <;> simp only [Rd] at hr ⊢ <;> exact ⟨hlen, hr.2⟩
    · simp only [Rd] at hr ⊢; exact ⟨hlen, hr.2⟩
  have h' : sealD Hb d = some (e, c) := by
    rcases hd with ⟨off, n, cp, rfl⟩ | ⟨off, rfl⟩
    · rw [← h]; simp only [sealD, hblk]
    · rw [← h]; simp only [sealD, hblk]
  have hfin := sealD_rd (S' := reS keep ρ H S) (H' := []) hSb (fun k hk => .inl hk) hlive d e c u h' hc hr'
  have hnl : Nameless e := by
    rcases hd with ⟨off, n, cp, rfl⟩ | ⟨off, rfl⟩
    · simp only [sealD] at h
      split at h
      · cases cp <;> (simp only at h; obtain ⟨rfl, rfl⟩ := pair_inj h; simp only [Nameless]; exact (hc.1.drop _).take _)
      · cases h
    · simp only [sealD] at h
      split at h
      · obtain ⟨rfl, rfl⟩ := pair_inj h; simp only [Nameless]; exact hc.1
      · cases h
  exact hfin.move hnl
mutual
theorem viewD_rd (hS : St ρ S w H) (hn : nodupB keep = true) (hh : viewHeap H keep H2) : ∀ (d e : D) (c : Prop) (u : Value), viewD keep H d = some (e, c) → c → Rd (ctx ρ S w H) d u → Rd (ctx (reρ keep ρ) (reS keep ρ H S) w H2) e u
  | .v x, e, c, u, h, hc, hr => by simp only [viewD] at h; obtain ⟨rfl, rfl⟩ := pair_inj h; simpa [Rd] using hr
  | .ro n xs, e, c, u, h, hc, hr => by
    simp only [viewD] at h; obtain ⟨rfl, rfl⟩ := pair_inj h
    have hnl : NamelessL xs := by simp only [Rd] at hr; exact hr.1
    exact hr.moveS (fun k hk => .inl hk) (by simpa [Nameless] using hnl)
  | .rp xs j, e, c, u, h, hc, hr => by
    simp only [viewD] at h; obtain ⟨rfl, rfl⟩ := pair_inj h
    have hnl : NamelessL xs := by simp only [Rd] at hr; exact hr.1
    exact hr.moveS (fun k hk => .inl hk) (by simpa [Nameless] using hnl)
  | .sl b off n cp, e, c, u, h, hc, hr => by
    simp only [viewD] at h
    split at h
    · rename_i i hi
      obtain ⟨rfl, rfl⟩ := pair_inj h
      have hk := idxOf_some hi
      have hlt : i < H2.length := by rw [(viewHeap_get _ _ hh).1]; exact (List.getElem?_eq_some_iff.1 hk).1
      have hρ : reρ keep ρ i = ρ b := by simp only [reρ, hk]
      cases cp with
      | exact c0 es => simp only [Rd] at hr ⊢; rw [hρ]; exact ⟨hlt, hr.2⟩
      | toEnd es => simp only [Rd] at hr ⊢; rw [hρ]; exact ⟨hlt, hr.2⟩
    · rename_i hi
      exact seal_rd hS (idxOf_go_none keep 0 b hi) (.inl ⟨off, n, cp, rfl⟩) h hc hr
  | .ptr b off, e, c, u, h, hc, hr => by
    simp only [viewD] at h
    split at h
    · rename_i i hi
      obtain ⟨rfl, rfl⟩ := pair_inj h
      have hk := idxOf_some hi
      have hlt : i < H2.length := by rw [(viewHeap_get _ _ hh).1]; exact (List.getElem?_eq_some_iff.1 hk).1
      have hρ : reρ keep ρ i = ρ b := by simp only [reρ, hk]
      simp only [Rd] at hr ⊢; rw [hρ]; exact ⟨hlt, hr.2⟩
    · rename_i hi
      exact seal_rd hS (idxOf_go_none keep 0 b hi) (.inr ⟨off, rfl⟩) h hc hr
  | .agg xs, e, c, u, h, hc, hr => by
    simp only [viewD] at h
    split at h
    · rename_i ys c' hl
      obtain ⟨rfl, rfl⟩ := pair_inj h
      simp only [Rd] at hr ⊢
      obtain ⟨us, hu, hr⟩ := hr
      exact ⟨us, hu, viewL_rd hS hn hh xs ys _ us.toList hl hc hr⟩
    · cases h
  | .tup xs, e, c, u, h, hc, hr => by
    simp only [viewD] at h
    split at h
    · rename_i ys c' hl
      obtain ⟨rfl, rfl⟩ := pair_inj h
      simp only [Rd] at hr ⊢
      obtain ⟨us, hu, hr⟩ := hr
      exact ⟨us, hu, viewT_rd hS hn hh xs ys _ us.toList hl hc hr⟩
    · cases h
  | .ifc t d, e, c, u, h, hc, hr => by
    simp only [viewD] at h
    split at h
    · rename_i y c' hl
      obtain ⟨rfl, rfl⟩ := pair_inj h
      simp only [Rd] at hr ⊢
      obtain ⟨x, hu, hr⟩ := hr
      exact ⟨x, hu, viewD_rd hS hn hh d y _ x hl hc hr⟩
    · cases h
  | .fn f k caps, e, c, u, h, hc, hr => by
    simp only [viewD] at h
    split at h
    · rename_i ys c' hl
      obtain ⟨rfl, rfl⟩ := pair_inj h
      simp only [Rd] at hr ⊢
      obtain ⟨fs, us, hu, hk, hr⟩ := hr
      exact ⟨fs, us, hu, hk, viewT_rd hS hn hh caps ys _ _ hl hc hr⟩
    · cases h
theorem viewL_rd (hS : St ρ S w H) (hn : nodupB keep = true) (hh : viewHeap H keep H2) : ∀ (ds es : List D) (c : Prop) (us : List Value), viewL keep H ds = some (es, c) → c → RdL (ctx ρ S w H) ds us → RdL (ctx (reρ keep ρ) (reS keep ρ H S) w H2) es us
  | [], es, c, us, h, hc, hr => by simp only [viewL] at h; obtain ⟨rfl, rfl⟩ := pair_inj h; simpa [RdL] using hr
  | d :: ds, es, c, us, h, hc, hr => by
    simp only [viewL] at h
    split at h
    · rename_i e c1 es' c2 h1 h2
      obtain ⟨rfl, rfl⟩ := pair_inj h
      simp only [RdL] at hr ⊢
      obtain ⟨u, r, hu, ho, hd, hr⟩ := hr
      exact ⟨u, r, hu, ho, viewD_rd hS hn hh d e _ u h1 hc.1 hd, viewL_rd hS hn hh ds es' _ r h2 hc.2 hr⟩
    · cases h
theorem viewT_rd (hS : St ρ S w H) (hn : nodupB keep = true) (hh : viewHeap H keep H2) : ∀ (ds es : List D) (c : Prop) (us : List Value), viewL keep H ds = some (es, c) → c → RdT (ctx ρ S w H) ds us → RdT (ctx (reρ keep ρ) (reS keep ρ H S) w H2) es us
  | [], es, c, us, h, hc, hr => by simp only [viewL] at h; obtain ⟨rfl, rfl⟩ := pair_inj h; simpa [RdT] using hr
  | d :: ds, es, c, us, h, hc, hr => by
    simp only [viewL] at h
    split at h
    · rename_i e c1 es' c2 h1 h2
      obtain ⟨rfl, rfl⟩ := pair_inj h
      simp only [RdT] at hr ⊢
      obtain ⟨u, r, hu, hd, hr⟩ := hr
      exact ⟨u, r, hu, viewD_rd hS hn hh d e _ u h1 hc.1 hd, viewT_rd hS hn hh ds es' _ r h2 hc.2 hr⟩
    · cases h
end
theorem viewEnv_get {env : Env} : ∀ (env2 : Env), viewEnv keep H env env2 → ∀ t d2, env2.lookup t = some d2 → ∃ d, env.lookup t = some d ∧ viewOk keep H d d2
  | [], _, t, d2, h => by simp at h
  | (s, e) :: r, hv, t, d2, h => by
    simp only [viewEnv] at hv
    rw [List.lookup_cons] at h
    split at h
    · rename_i ht
      have ht : t = s := by simpa using ht
      injection h with h; subst h; subst ht
      have h1 := hv.1
      split at h1
      · rename_i d hd; exact ⟨d, hd, h1⟩
      · exact h1.elim
    · exact viewEnv_get r hv.2 t d2 h
theorem view_of {nt : Nat} {env env2 : Env} (h : viewAll keep env H env2 H2) : View nt env H env2 H2 := by
  obtain ⟨hn, hh, he⟩ := h
  intro ρ S w a hi
  refine ⟨reρ keep ρ, reS keep ρ H S, ⟨view_st hi.st hn hh, fun t d2 ht => ?_, hi.size, hi.defers⟩, view_lem hi.st hh⟩
  obtain ⟨d, hd, hok⟩ := viewEnv_get env2 he t d2 ht
  have hr := hi.env t d hd
  unfold viewOk at hok
  cases hnil : isNilSl d d2 with
  | false =>
    rw [hnil] at hok
    simp only [cond_false] at hok
    split at hok
    · rename_i e c hv
      obtain ⟨hc, rfl⟩ := hok
      exact viewD_rd hi.st hn hh d e c _ hv hc hr
    · exact hok.elim
  | true =>
    rw [hnil] at hok
    simp only [cond_true] at hok
    unfold isNilSl at hnil
    split at hnil
    · rename_i i es
      simp only [nilOk] at hok
      split at hok
      · rename_i hk
        simp only [Rd] at hr ⊢
        have hlt : i < H2.length := by rw [(viewHeap_get _ _ hh).1]; exact (List.getElem?_eq_some_iff.1 hk).1
        refine ⟨hlt, none, 0, hr, Nat.le_refl _, Nat.zero_le _, ?_, fun h => absurd h (by omega)⟩
        simp [reρ, hk]
      · exact hok.elim
    · cases hnil
end
def LRuleP (P : Program) (nt : Nat) (c : Code) (L : LoopO) : Prop := ∀ env H Q, L env H Q → DWP P nt (.loop c) Q env H
def LpAllP (P : Program) (nt : Nat) (lp : Nat → Option LoopO) : List Code → Prop
  | [] => True
  | c :: r => (match lp (firstReg c) with
    | some L => LRuleP P nt c L
    | none => True) ∧ LpAllP P nt lp r
theorem LpAllP.app {P : Program} {nt : Nat} {lp : Nat → Option LoopO} : ∀ {l r : List Code}, LpAllP P nt lp (l ++ r) → LpAllP P nt lp l ∧ LpAllP P nt lp r
  | [], r, h => ⟨trivial, h⟩
  | c :: l, r, h => by
    simp only [List.cons_append, LpAllP] at h ⊢
    exact ⟨⟨h.1, h.2.app.1⟩, h.2.app.2⟩
theorem LpAllP.none {P : Program} {nt : Nat} : ∀ (l : List Code), LpAllP P nt (fun _ => none) l
  | [] => trivial
  | c :: l => ⟨trivial, LpAllP.none l⟩
section
variable {P : Program} {T : Tbl} (hT : TblOk P T) {nt N : Nat} {call : CallO} {lp : Nat → Option LoopO}
theorem View.refl {nt : Nat} (env : Env) (H : Heap) : View nt env H env H := fun ρ S w a hi => ⟨ρ, S, hi, Ctx.lem.refl _⟩
theorem View.has {nt : Nat} {env env2 : Env} {H : Heap} (h : Has env env2) : View nt env H env2 H := fun ρ S w a hi => ⟨ρ, S, hi.sub h, Ctx.lem.refl _⟩
theorem xLoop_okP {c : Code} {body : (Exit → Env → Heap → Prop) → Env → Heap → Prop} (hb : ∀ Q env H, body Q env H → DWP P nt c Q env H) {n : Nat} {Q : Exit → Env → Heap → Prop} {env : Env} {H : Heap} (h : xLoop body n Q (prune [] env) H) : DWP P nt (.loop c) Q env H := by
  refine DWP.view (View.has (has_prune env)) ?_
  refine DWP.loop (fun x : Nat × Env × Heap => xLoop body x.1 Q x.2.1 x.2.2) (fun x => x.2.1) (fun x => x.2.2) (fun x => x.1) (n, prune [] env, H) h ?_
  rintro ⟨m, en, hp⟩ hx
  simp only at hx ⊢
  cases m with
  | zero => exact hx.elim
  | succ m =>
    refine (hb _ _ _ hx).mono fun e env' H' hh => ?_
    cases e with
    | normal => exact ⟨(m, prune [] env', H'), by simp, hh, View.has (has_prune env')⟩
    | _ => exact hh
include hT
theorem vcp_sound (hm : P.follows .mixedOrders = true) (hc : CallOK P call) : ∀ (c : Code) (Q : Exit → Env → Heap → Prop) (env : Env) (H : Heap), codeOk nt c = true → LpAllP P nt lp (loopsOf c) → vcx P call lp T N c Q env H → DWP P nt c Q env H
  | .skip, Q, env, H, hok, _, h => (vcg_sound hT hm .skip Q env H hok h).dwp
  | .region id ops draw, Q, env, H, hok, _, h => by
    refine (vcx_sound (lp := fun _ => none) (N := N) hT hm hc (.region id ops draw) Q env H hok (LpAll.none _) h).dwp
  | .seq a b, Q, env, H, hok, hl, h => by
    simp only [codeOk, Bool.and_eq_true] at hok
    obtain ⟨hl1, hl2⟩ := LpAllP.app hl
    intro ρ S w ac hi
    simp only [vcx] at h
    have main : ∀ isInt, xJoin (fun Q => vcx P call lp T N a Q env H) (fun env' H' => vcx P call lp T N b Q env' H') isInt (joinVars (setsC a) (readsC b)) (joinEnv (setsC a) (readsC b) env) Q H → Code.wp P (.seq a b) (fun e a' w' => ∃ env' H' ρ' S', Q e env' H' ∧ Inv nt ρ' S' w' H' env' a' ∧ (ctx ρ S w H).lem (ctx ρ' S' w' H')) ac w := fun isInt h => by
      obtain ⟨R, h, hR⟩ := xJoin_use h
      refine wp_seq (wp_mono (vcp_sound hm hc a _ env H hok.1 hl1 h  ρ S w ac hi) fun e a' w' ⟨env', H', ρ', S', h1, h2, h3⟩ => ?_)
      cases e with
      | normal =>
        obtain ⟨rfl, env2, hh, hb⟩ := hR _ _ h1
        refine wp_mono (vcp_sound hm hc b Q env2 H' hok.2 hl2 hb  ρ' S' w' a' (h2.sub hh)) fun e a'' w'' ⟨env'', H'', ρ'', S'', h4, h5, h6⟩ => ?_
        exact ⟨env'', H'', ρ'', S'', h4, h5, h3.trans h6⟩
      | _ => exact ⟨env', H', ρ', S', h1, h2, h3⟩
    split at h
    · split at h
      · refine wp_seq (wp_mono (vcp_sound hm hc a _ env H hok.1 hl1 h  ρ S w ac hi) fun e a' w' ⟨env', H', ρ', S', h1, h2, h3⟩ => ?_)
        cases e with
        | normal =>
          refine wp_mono (vcp_sound hm hc b Q env' H' hok.2 hl2 h1  ρ' S' w' a' h2) fun e a'' w'' ⟨env'', H'', ρ'', S'', h4, h5, h6⟩ => ?_
          exact ⟨env'', H'', ρ'', S'', h4, h5, h3.trans h6⟩
        | _ => exact ⟨env', H', ρ', S', h1, h2, h3⟩
      · exact main true h
    · exact main false h
  | .cond c x y, Q, env, H, hok, hl, h => by
    simp only [codeOk, Bool.and_eq_true] at hok
    obtain ⟨hl1, hl2⟩ := LpAllP.app hl
    intro ρ S w ac hi
    simp only [vcx] at h
    split at h
    · rename_i b hb
      have hv := get_rd hi.st.glob hi.env c _ hb
      simp only [Rd] at hv
      obtain ⟨h1, h2⟩ := cond_prop h
      cases b with
      | true => exact wp_cond hv (vcp_sound hm hc x Q env H hok.1 hl1 (h1 rfl) ρ S w ac hi)
      | false => exact wp_cond hv (vcp_sound hm hc y Q env H hok.2 hl2 (h2 rfl) ρ S w ac hi)
    · exact h.elim
  | .block id c, Q, env, H, hok, hl, h => by
    simp only [codeOk] at hok
    intro ρ S w ac hi
    refine wp_block (wp_mono (vcp_sound hm hc c _ env H hok hl h ρ S w ac hi) fun e a' w' ⟨env', H', ρ', S', h1, h2, h3⟩ => ?_)
    cases e with
    | exit id' =>
      simp only [blockQ] at h1
      simp only [Exit.inBlock]
      split
      · rename_i he; rw [if_pos he] at h1; exact ⟨env', H', ρ', S', h1, h2, h3⟩
      · rename_i he; rw [if_neg he] at h1; exact ⟨env', H', ρ', S', h1, h2, h3⟩
    | _ => exact ⟨env', H', ρ', S', h1, h2, h3⟩
  | .exit id, Q, env, H, hok, _, h => (vcg_sound hT hm (.exit id) Q env H hok h).dwp
  | .ret, Q, env, H, hok, _, h => (vcg_sound hT hm .ret Q env H hok h).dwp
  | .label l, Q, env, H, hok, _, h => (vcg_sound hT hm (.label l) Q env H hok h).dwp
  | .goto l, Q, env, H, hok, _, h => (vcg_sound hT hm (.goto l) Q env H hok h).dwp
  | .refuse _, _, _, _, _, _, h => h.elim
  | .scope c, Q, env, H, hok, hl, h => by
    simp only [codeOk] at hok
    intro ρ S w ac hi
    refine wp_scope_straight (wp_mono (vcp_sound hm hc c _ env H hok hl h ρ S w ac hi) fun e a' w' ⟨env', H', ρ', S', h1, h2, h3⟩ => ?_)
    cases e with
    | goto l => exact h1.elim
    | _ => exact ⟨env', H', ρ', S', h1, h2, h3⟩
  | .rangeFunc .., Q, env, H, _, _, h => h.elim
  | .loop c, Q, env, H, hok, hl, h => by
    simp only [codeOk] at hok
    simp only [loopsOf, LpAllP] at hl
    simp only [vcx] at h
    cases hlp : lp (firstReg c) with
    | some L =>
      simp only [hlp] at h hl
      exact hl.1 env H Q h
    | none =>
      simp only [hlp] at h
      exact xLoop_okP (fun Q env H hh => vcp_sound hm hc c Q env H hok hl.2 hh) h
theorem pureJ_of_vcp (hm : P.follows .mixedOrders = true) (hc : CallOK P call) {f : FuncId} {fn : Func} {c : Code} {ds : List D} {d : D} (hf : P.funcs[f]? = some fn) (hb : fn.body = some c)
    (hname : (fn.name == "runtime.NumGoroutine") = false) (hok : codeOk fn.ntmps c = true) (hlen : decide (ds.length ≤ fn.ntmps) = true) (hl : LpAllP P fn.ntmps lp (loopsOf c)) (h1 : NamelessL ds) (h2 : Nameless d)
    (h : vcx P call lp T N c (retQ T fn.results.toList fun d1 H1 => SealTo H1 d1 d) (envOf 0 ds) []) : PureJ P f ds d := by
  refine PureJ.of_nil h1 h2 (callJ_of_dw hT hf hb hname (by simpa using hlen) ?_)
  intro ρ S w a hi
  refine wp_mono (vcp_sound hT hm hc c _ _ _ hok hl h ρ S w a hi) fun e a' w' ⟨env', H', ρ', S', g1, g2, g3⟩ => ?_
  have nl : ∀ ρ k, ¬ Live ρ [] k := fun ρ k ⟨b, blk, hb, _⟩ => by simp at hb
  refine ⟨env', H', ρ', S', ?_, g2, ⟨by simp, fun b hb => by simp at hb, g3.S, g3.keep, g3.new, g3.fix, g3.heap, g3.size, g3.os, g3.tape, g3.output⟩⟩
  cases e <;> simp only [retQ] at g1 ⊢
  all_goals first
    | exact g1.elim
    | (split at g1
       · exact ⟨g1.1, fin_seal g1.2⟩
       · exact g1.elim)
def loopRule {α β : Type} (kp : List (Option Nat)) (J : α → Prop) (I : α → Env) (HI : α → Heap) (x0 : α) (R : β → Prop) (E : β → Exit × Env × Heap) : LoopO :=
  fun env H Q => J x0 ∧ viewAll kp env H (I x0) (HI x0) ∧ ∀ r, R r → Q (E r).1 (E r).2.1 (E r).2.2
def selEnv : Env → Env → Env
  | [], _ => []
  | (t, _) :: r, env => match env.lookup t with
    | some d => (t, d) :: selEnv r env
    | none => selEnv r env
omit hT in
theorem has_sel {env : Env} : ∀ (like : Env), Has env (selEnv like env)
  | [] => trivial
  | (t, d0) :: r => by
    simp only [selEnv]
    split
    · rename_i d hd; exact ⟨hd, has_sel r⟩
    · exact has_sel r
omit hT in
theorem View.trans {nt : Nat} {e1 e2 e3 : Env} {H1 H2 H3 : Heap} (v : View nt e1 H1 e2 H2) (u : View nt e2 H2 e3 H3) : View nt e1 H1 e3 H3 := by
  intro ρ S w a hi
  obtain ⟨ρ', S', hi', hle⟩ := v ρ S w a hi
  obtain ⟨ρ'', S'', hi'', hle'⟩ := u ρ' S' w a hi'
  exact ⟨ρ'', S'', hi'', hle.trans hle'⟩
def roundQ {α β : Type} (J : α → Prop) (I : α → Env) (HI : α → Heap) (μ : α → Nat) (R : β → Prop) (E : β → Exit × Env × Heap) (x : α) : Exit → Env → Heap → Prop
  | .normal, env', H' => ∃ (y : α) (kp : List (Option Nat)), μ y < μ x ∧ J y ∧ viewAll kp (selEnv (I y) env') H' (I y) (HI y)
  | e, env', H' => ∃ (r : β) (kp : List (Option Nat)), R r ∧ e = (E r).1 ∧ viewAll kp (selEnv (E r).2.1 env') H' (E r).2.1 (E r).2.2
theorem lrule_of (hm : P.follows .mixedOrders = true) (hc : CallOK P call) {α β : Type} {kp : List (Option Nat)} {J : α → Prop} {I : α → Env} {HI : α → Heap} (μ : α → Nat) {x0 : α} {R : β → Prop} {E : β → Exit × Env × Heap} {c : Code}
    (hok : codeOk nt c = true) (hl : LpAllP P nt lp (loopsOf c)) (round : ∀ x, J x → vcx P call lp T N c (roundQ J I HI μ R E x) (I x) (HI x)) : LRuleP P nt c (loopRule kp J I HI x0 R E) := by
  rintro env H Q ⟨h0, hv, hq⟩
  refine DWP.view (view_of hv) ?_
  refine DWP.loop J I HI μ x0 h0 fun x hx => DWP.post ((vcp_sound hT hm hc c _ _ _ hok hl (round x hx)).mono fun e env' H' h => ?_)
  cases e with
  | normal =>
    obtain ⟨y, k, h1, h2, h3⟩ := h
    exact ⟨env', H', View.refl _ _, y, h1, h2, (View.has (has_sel _)).trans (view_of h3)⟩
  | _ =>
    obtain ⟨r, k, h1, h2, h3⟩ := h
    refine ⟨_, _, (View.has (has_sel _)).trans (view_of h3), ?_⟩
    have := hq r h1
    rw [← h2] at this
    exact this
end
def loopRule2 {α β γ : Type} (kp : List (Option Nat)) (J : α → Prop) (I : α → Env) (HI : α → Heap) (x0 : α) (R : β → Prop) (E : β → Exit × Env × Heap) (R' : γ → Prop) (E' : γ → Exit × Env × Heap) : LoopO :=
  fun env H Q => J x0 ∧ viewAll kp env H (I x0) (HI x0) ∧ (∀ r, R r → Q (E r).1 (E r).2.1 (E r).2.2) ∧ ∀ r, R' r → Q (E' r).1 (E' r).2.1 (E' r).2.2
def roundQ2 {α β γ : Type} (J : α → Prop) (I : α → Env) (HI : α → Heap) (μ : α → Nat) (R : β → Prop) (E : β → Exit × Env × Heap) (R' : γ → Prop) (E' : γ → Exit × Env × Heap) (x : α) : Exit → Env → Heap → Prop
  | .normal, env', H' => ∃ (y : α) (kp : List (Option Nat)), μ y < μ x ∧ J y ∧ viewAll kp (selEnv (I y) env') H' (I y) (HI y)
  | e, env', H' => (∃ (r : β) (kp : List (Option Nat)), R r ∧ e = (E r).1 ∧ viewAll kp (selEnv (E r).2.1 env') H' (E r).2.1 (E r).2.2) ∨ ∃ (r : γ) (kp : List (Option Nat)), R' r ∧ e = (E' r).1 ∧ viewAll kp (selEnv (E' r).2.1 env') H' (E' r).2.1 (E' r).2.2
theorem lrule_of2 {P : Program} {T : Tbl} (hT : TblOk P T) {nt N : Nat} {call : CallO} {lp : Nat → Option LoopO} (hm : P.follows .mixedOrders = true) (hc : CallOK P call) {α β γ : Type} {kp : List (Option Nat)} {J : α → Prop} {I : α → Env} {HI : α → Heap} (μ : α → Nat) {x0 : α} {R : β → Prop} {E : β → Exit × Env × Heap} {R' : γ → Prop} {E' : γ → Exit × Env × Heap} {c : Code}
    (hok : codeOk nt c = true) (hl : LpAllP P nt lp (loopsOf c)) (round : ∀ x, J x → vcx P call lp T N c (roundQ2 J I HI μ R E R' E' x) (I x) (HI x)) : LRuleP P nt c (loopRule2 kp J I HI x0 R E R' E') := by
  rintro env H Q ⟨h0, hv, hq, hq'⟩
  refine DWP.view (view_of hv) ?_
  refine DWP.loop J I HI μ x0 h0 fun x hx => DWP.post ((vcp_sound hT hm hc c _ _ _ hok hl (round x hx)).mono fun e env' H' h => ?_)
  cases e with
  | normal =>
    obtain ⟨y, k, h1, h2, h3⟩ := h
    exact ⟨env', H', View.refl _ _, y, h1, h2, (View.has (has_sel _)).trans (view_of h3)⟩
  | _ =>
    rcases h with ⟨r, k, h1, h2, h3⟩ | ⟨r, k, h1, h2, h3⟩
    · refine ⟨_, _, (View.has (has_sel _)).trans (view_of h3), ?_⟩
      have := hq r h1
      rw [← h2] at this
      exact this
    · refine ⟨_, _, (View.has (has_sel _)).trans (view_of h3), ?_⟩
      have := hq' r h1
      rw [← h2] at this
      exact this
def loopAt (c : Code) (k : Nat) : Code := ((loopsOf c).find? fun b => Nat.beq (firstReg b) k).getD .skip
end Go.VD
end
section
namespace Go.VD
set_option linter.unusedVariables false
set_option linter.unusedSimpArgs false
structure MutJ (P : Program) (g : FuncId) (off n : Nat) (c : Cap) (plain : List D) (blk : Blk) (d : D) (blk' : Blk) : Prop where
  call : CallJ P g (.sl 0 off n c :: plain) [some blk] d [some blk']
  plain : NamelessL plain
  res : Nameless d
  cs : NamelessL blk.cs
  cs' : NamelessL blk'.cs
end Go.VD
end
section
namespace Go.VD
set_option linter.unusedVariables false
set_option linter.unusedSimpArgs false
mutual
theorem shD_nameless {k : Nat} : ∀ d : D, Nameless d → shD k d = d
  | .v _, _ => rfl
  | .ro _ _, _ => rfl
  | .rp _ _, _ => rfl
  | .sl _ _ _ _, h => by simp [Nameless] at h
  | .ptr _ _, h => by simp [Nameless] at h
  | .agg xs, h => by simp only [Nameless] at h; simp only [shD]; rw [shL_nameless xs h]
  | .tup xs, h => by simp only [Nameless] at h; simp only [shD]; rw [shL_nameless xs h]
  | .ifc _ d, h => by simp only [Nameless] at h; simp only [shD]; rw [shD_nameless d h]
  | .fn _ _ xs, h => by simp only [Nameless] at h; simp only [shD]; rw [shL_nameless xs h]
theorem shL_nameless {k : Nat} : ∀ cs : List D, NamelessL cs → shL k cs = cs
  | [], _ => rfl
  | d :: ds, h => by simp only [NamelessL] at h; simp only [shL]; rw [shD_nameless d h.1, shL_nameless ds h.2]
end
end Go.VD
end
section
namespace Go.VD
set_option linter.unusedVariables false
set_option linter.unusedSimpArgs false
end Go.VD
end
section
namespace Go.VD
set_option linter.unusedVariables false
set_option linter.unusedSimpArgs false
mutual
def nilRo : D → D
  | .v x => match x with
    | .slice none 0 0 => .ro 0 []
    | y => .v y
  | .ro n xs => .ro n xs
  | .rp xs j => .rp xs j
  | .sl b o n c => .sl b o n c
  | .ptr b o => .ptr b o
  | .agg xs => .agg (nilRoL xs)
  | .tup xs => .tup (nilRoL xs)
  | .ifc t d => .ifc t d
  | .fn f k c => .fn f k c
def nilRoL : List D → List D
  | [] => []
  | d :: ds => nilRo d :: nilRoL ds
end
theorem nilRo_v {E : Ctx} {x u : Value} (h : u = x) : Rd E (nilRo (.v x)) u := by
  unfold nilRo
  split
  · exact ⟨by simp [NamelessL], none, 0, h, Nat.le_refl _, Nat.zero_le _, fun h => absurd h (Nat.lt_irrefl _)⟩
  · exact h
mutual
theorem rd_nilRo {E : Ctx} : ∀ (d : D) (u : Value), Rd E d u → Rd E (nilRo d) u
  | .v x, u, h => nilRo_v h
  | .ro .., _, h => h
  | .rp .., _, h => h
  | .sl .., _, h => h
  | .ptr .., _, h => h
  | .agg xs, u, ⟨us, e, h⟩ => ⟨us, e, rdL_nilRo xs us.toList h⟩
  | .tup xs, u, ⟨us, e, h⟩ => ⟨us, e, rdT_nilRo xs us.toList h⟩
  | .ifc .., _, h => h
  | .fn .., _, h => h
theorem rdL_nilRo {E : Ctx} : ∀ (ds : List D) (us : List Value), RdL E ds us → RdL E (nilRoL ds) us
  | [], _, h => h
  | d :: ds, _, ⟨u, r, e, h1, h2, h3⟩ => ⟨u, r, e, h1, rd_nilRo d u h2, rdL_nilRo ds r h3⟩
theorem rdT_nilRo {E : Ctx} : ∀ (ds : List D) (us : List Value), RdT E ds us → RdT E (nilRoL ds) us
  | [], _, h => h
  | d :: ds, _, ⟨u, r, e, h2, h3⟩ => ⟨u, r, e, rd_nilRo d u h2, rdT_nilRo ds r h3⟩
end
mutual
theorem nameless_nilRo : ∀ d : D, Nameless (nilRo d) → Nameless d
  | .v _, _ => trivial
  | .ro .., h => h
  | .rp .., h => h
  | .sl .., h => h
  | .ptr .., h => h
  | .agg xs, h => namelessL_nilRo xs h
  | .tup xs, h => namelessL_nilRo xs h
  | .ifc .., h => h
  | .fn .., h => h
theorem namelessL_nilRo : ∀ ds : List D, NamelessL (nilRoL ds) → NamelessL ds
  | [], h => h
  | d :: ds, h => ⟨nameless_nilRo d h.1, namelessL_nilRo ds h.2⟩
end
theorem PureJ.nilRo {P : Program} {f : FuncId} {ds : List D} {d : D} (h : PureJ P f (nilRoL ds) d) : PureJ P f ds d :=
  ⟨h.callable, namelessL_nilRo ds h.args, h.res, fun S w vals hs hG hv => h.call S w vals hs hG (rdT_nilRo ds vals hv)⟩
def exLoop {α : Type} (f : α → LoopO) : LoopO := fun env H Q => ∃ a, f a env H Q
theorem exLoop_rule {P : Program} {nt : Nat} {c : Code} {α : Type} {f : α → LoopO} (h : ∀ a, LRuleP P nt c (f a)) : LRuleP P nt c (exLoop f) := fun env H Q ⟨a, ha⟩ => h a env H Q ha
end Go.VD
end
