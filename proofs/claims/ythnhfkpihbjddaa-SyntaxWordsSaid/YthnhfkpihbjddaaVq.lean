/- Words for proofs over conditions: lists of 32-bit digits; integers that need no wrap. -/
import Derived.Test.YthnhfkpihbjddaaVp
namespace Go.VD
set_option linter.unusedVariables false
set_option linter.unusedSimpArgs false

def u32s (xs : List Nat) : List D := xs.map fun (x : Nat) => D.v (.int .u32 (x : Int))
theorem u32s_nameless (xs : List Nat) : NamelessL (u32s xs) := NamelessL.map _ (fun _ => by simp [Nameless]) xs
theorem u32s_length (xs : List Nat) : (u32s xs).length = xs.length := by simp [u32s]
theorem u32s_cell (xs : List Nat) (i : Nat) : cellInt ((u32s xs).getD i default) = (xs.getD i 0 : Nat) := by
  simp only [u32s, List.getD_eq_getElem?_getD, List.getElem?_map]
  cases h : xs[i]? <;> simp [cellInt] <;> rfl
theorem u32s_isInt (xs : List Nat) (i : Nat) (h : i < xs.length) : IsInt .u32 ((u32s xs).getD i default) = True := by
  simp [IsInt, u32s, List.getD_eq_getElem?_getD, List.getElem?_eq_getElem, h, cellInt]
theorem u32s_take (xs : List Nat) (n : Nat) : (u32s xs).take n = u32s (xs.take n) := by simp [u32s]
theorem u32s_drop (xs : List Nat) (n : Nat) : (u32s xs).drop n = u32s (xs.drop n) := by simp [u32s]
theorem u32s_append (xs ys : List Nat) : u32s xs ++ u32s ys = u32s (xs ++ ys) := by simp [u32s]
theorem u32s_set (xs : List Nat) (i x : Nat) : (u32s xs).set i (.v (.int .u32 (x : Int))) = u32s (xs.set i x) := by simp [u32s]
theorem u32s_replicate (n x : Nat) : List.replicate n (D.v (.int .u32 (x : Int))) = u32s (List.replicate n x) := by simp [u32s]

/-- the numbers in cells -/
def unu (ys : List D) : List Nat := ys.map fun d => (cellInt d).toNat
theorem unu_u32s (xs : List Nat) : unu (u32s xs) = xs := by
  simp only [unu, u32s, List.map_map]
  have : ((fun d => (cellInt d).toNat) ∘ fun (x : Nat) => D.v (.int .u32 (x : Int))) = id := by funext x; simp [cellInt]
  rw [this, List.map_id]
def ints (k : IntKind) (xs : List Int) : List D := xs.map fun x => D.v (.int k x)
def uni (ys : List D) : List Int := ys.map cellInt
theorem uni_ints (k : IntKind) (xs : List Int) : uni (ints k xs) = xs := by
  simp only [uni, ints, List.map_map]
  have : (cellInt ∘ fun (x : Int) => D.v (.int k x)) = id := by funext x; simp [cellInt]
  rw [this, List.map_id]
theorem namelessL_ints (k : IntKind) (xs : List Int) : NamelessL (ints k xs) := NamelessL.map _ (fun _ => by simp [Nameless]) xs
theorem ints_length (k : IntKind) (xs : List Int) : (ints k xs).length = xs.length := by simp [ints]
theorem ints_cell (k : IntKind) (xs : List Int) (i : Nat) : cellInt ((ints k xs).getD i default) = xs.getD i 0 := by
  simp only [ints, List.getD_eq_getElem?_getD, List.getElem?_map]
  cases h : xs[i]? <;> simp [cellInt] <;> rfl
theorem ints_isInt (k : IntKind) (xs : List Int) (i : Nat) (h : i < xs.length) : IsInt k ((ints k xs).getD i default) = True := by
  simp [IsInt, ints, List.getD_eq_getElem?_getD, List.getElem?_eq_getElem, h, cellInt]
theorem ints_take (k : IntKind) (xs : List Int) (n : Nat) : (ints k xs).take n = ints k (xs.take n) := by simp [ints]
theorem ints_drop (k : IntKind) (xs : List Int) (n : Nat) : (ints k xs).drop n = ints k (xs.drop n) := by simp [ints]
theorem ints_append (k : IntKind) (xs ys : List Int) : ints k xs ++ ints k ys = ints k (xs ++ ys) := by simp [ints]
theorem ints_set (k : IntKind) (xs : List Int) (i : Nat) (x : Int) : (ints k xs).set i (.v (.int k x)) = ints k (xs.set i x) := by simp [ints]
theorem wrap_i64_of {n : Int} (h1 : -9223372036854775808 ≤ n) (h2 : n < 9223372036854775808) : IntKind.i64.wrap n = n := by
  rw [IntKind.wrap_i64]; omega
theorem wrap_u32_of {n : Int} (h1 : 0 ≤ n) (h2 : n < 4294967296) : IntKind.u32.wrap n = n := by
  simp [IntKind.wrap, IntKind.bits, IntKind.signed]; omega
theorem wrap_u64_of {n : Int} (h1 : 0 ≤ n) (h2 : n < 18446744073709551616) : IntKind.u64.wrap n = n := by
  simp [IntKind.wrap, IntKind.bits, IntKind.signed]; omega
theorem wrap_u32 (n : Int) : IntKind.u32.wrap n = n % 4294967296 := by
  simp [IntKind.wrap, IntKind.bits, IntKind.signed]
theorem wrap_u64 (n : Int) : IntKind.u64.wrap n = n % 18446744073709551616 := by
  simp [IntKind.wrap, IntKind.bits, IntKind.signed]
theorem wrap_u8 (n : Int) : IntKind.u8.wrap n = n % 256 := by
  simp [IntKind.wrap, IntKind.bits, IntKind.signed]
theorem nat_eq0 (n : Nat) : ((n : Int) == 0) = decide (n = 0) := by
  by_cases h : n = 0
  · simp [h]
  · simp [h]
theorem hp_get (H L : Heap) (k : Nat) : (H ++ L)[H.length + k]? = L[k]? := by
  rw [List.getElem?_append_right (by omega)]; congr 1; omega
theorem hp_get0 (H L : Heap) : (H ++ L)[H.length]? = L[0]? := hp_get H L 0
theorem hp_set (H L : Heap) (k : Nat) (x : Option Blk) : (H ++ L).set (H.length + k) x = H ++ L.set k x := by
  rw [List.set_append_right _ _ (by omega)]; congr 2; omega
theorem hp_set0 (H L : Heap) (x : Option Blk) : (H ++ L).set H.length x = H ++ L.set 0 x := hp_set H L 0 x
theorem hp_len (H L : Heap) : (H ++ L).length = H.length + L.length := by simp
theorem hp_old {H : Heap} {b : Nat} {blk : Blk} (h : H[b]? = some (some blk)) (L : Heap) : (H ++ L)[b]? = some (some blk) := by
  rw [List.getElem?_append_left]
  · exact h
  · exact (List.getElem?_eq_some_iff.1 h).1

/-- a slice of length 0 is known but for nil -/
theorem callJ_ro0 {P : Program} {f : FuncId} {ys : List D} {H H' : Heap} {d : D} (h : ∀ A c, CallJ P f [.v (.slice A 0 c)] H d H') : CallJ P f [.ro 0 ys] H d H' := by
  refine ⟨(h none 0).1, fun ρ S w vals hS hv => ?_⟩
  simp only [RdT, Rd] at hv
  obtain ⟨u, r, rfl, ⟨_, A, c, rfl, _⟩, rfl⟩ := hv
  exact (h A c).2 ρ S w _ hS (by simp [RdT, Rd])
theorem callJ_sl0 {P : Program} {f : FuncId} {b off : Nat} {cp : Cap} {H H' : Heap} {d : D} (h : ∀ A c, CallJ P f [.v (.slice A 0 c)] H d H') : CallJ P f [.sl b off 0 cp] H d H' := by
  refine ⟨(h none 0).1, fun ρ S w vals hS hv => ?_⟩
  cases cp with
  | exact c es =>
    simp only [RdT, Rd] at hv
    obtain ⟨u, r, rfl, ⟨_, _, _, A, rfl, _⟩, rfl⟩ := hv
    exact (h A c).2 ρ S w _ hS (by simp [RdT, Rd])
  | toEnd es =>
    simp only [RdT, Rd] at hv
    obtain ⟨u, r, rfl, ⟨_, A, c, rfl, _⟩, rfl⟩ := hv
    exact (h A c).2 ρ S w _ hS (by simp [RdT, Rd])

/-- nil as a slice of a block of its own -/
theorem fin_nil {ds : List D} {H : Heap} {e : TypeId} {es : Nat} {f : Bool} : Fin ds H (.v (.slice none 0 0)) H (.sl (H.length + 1) 0 0 (.toEnd es)) (H ++ [none, some ⟨e, [], f⟩]) := by
  intro ρ0 S0 w0 ρ S w u hS0 hle hS hr
  let ρ2 : Nat → Nat × Nat := fun b => if b < H.length then ρ b else (0, 0)
  have e1 : ∀ b, b < H.length → ρ2 b = ρ b := fun b hb => if_pos hb
  have e2 : ∀ b, ¬ b < H.length → ρ2 b = (0, 0) := fun b hb => if_neg hb
  have old : ∀ b blk, (H ++ [none, some ⟨e, [], f⟩])[b]? = some (some blk) → (b < H.length ∧ H[b]? = some (some blk)) ∨ (b = H.length + 1 ∧ blk = ⟨e, [], f⟩) := by
    intro b blk hb
    rcases Nat.lt_or_ge b H.length with h | h
    · rw [List.getElem?_append_left h] at hb; exact .inl ⟨h, hb⟩
    · rw [List.getElem?_append_right h] at hb
      rcases hk : b - H.length with _ | _ | k
      · simp [hk] at hb
      · simp only [hk, List.getElem?_cons_succ, List.getElem?_cons_zero, Option.some.injEq] at hb
        exact .inr ⟨by omega, hb.symm⟩
      · simp [hk] at hb
  have live : ∀ k, Live ρ2 (H ++ [none, some ⟨e, [], f⟩]) k → Live ρ H k := by
    rintro k ⟨b, blk, hb, hz, hk⟩
    rcases old b blk hb with ⟨h1, h2⟩ | ⟨h1, _⟩
    · rw [e1 b h1] at hz hk; exact ⟨b, blk, h2, hz, hk⟩
    · rw [e2 b (by omega)] at hz; exact absurd hz (by simp)
  have hle2 : (ctx ρ S w H).le (ctx ρ2 S w (H ++ [none, some ⟨e, [], f⟩])) :=
    ⟨by simp, e1, fun _ h => h, fun _ _ => rfl, fun _ h => .inl h, fun k hk => ⟨hk.1, fun hl => hk.2 (live k hl)⟩, fun _ _ => rfl, Nat.le_refl _, rfl, rfl, rfl⟩
  refine ⟨ρ2, S, ⟨fun k hk => ⟨(hS.sub k hk).1, fun hl => (hS.sub k hk).2 (live k hl)⟩, ?_, ?_, ?_, hS.glob⟩, hle.trans hle2, ?_⟩
  · intro b blk hb hz
    rcases old b blk hb with ⟨h1, h2⟩ | ⟨_, rfl⟩
    · rw [e1 b h1] at hz; exact hS.none b blk h2 hz
    · rfl
  · intro b blk hb hz
    rcases old b blk hb with ⟨h1, h2⟩ | ⟨h1, _⟩
    · rw [e1 b h1] at hz ⊢
      obtain ⟨cur, hc⟩ := hS.blk b blk h2 hz
      exact ⟨cur, hc.heap, hc.size, hc.pre.mono hle2 _ _, hc.full⟩
    · rw [e2 b (by omega)] at hz; exact absurd hz (by simp)
  · intro b b' blk blk' hb hb' hz hz' hk
    rcases old b blk hb with ⟨h1, h2⟩ | ⟨h1, _⟩
    · rcases old b' blk' hb' with ⟨h1', h2'⟩ | ⟨h1', _⟩
      · rw [e1 b h1] at hz hk; rw [e1 b' h1'] at hz' hk
        exact hS.inj b b' blk blk' h2 h2' hz hz' hk
      · rw [e2 b' (by omega)] at hz'; exact absurd hz' (by simp)
    · rw [e2 b (by omega)] at hz; exact absurd hz (by simp)
  · simp only [Rd] at hr ⊢
    refine ⟨by simp, none, 0, hr, Nat.le_refl _, by decide, ?_, fun h => absurd h (by omega)⟩
    show 0 + 0 * es = (ρ2 (H.length + 1)).2
    rw [e2 _ (by omega)]; simp
end Go.VD
