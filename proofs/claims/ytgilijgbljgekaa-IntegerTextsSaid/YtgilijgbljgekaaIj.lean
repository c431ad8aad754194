/- An argument of the laws: an integer of any size. -/
import Derived.Test.YtgilijgbljgekaaRm
import Derived.Test.YtgilijgbljgekaaEb
namespace Go.Proofs.Ytgilijgbljgekaa
open Go.VD
set_option linter.unusedVariables false
set_option linter.unusedSimpArgs false
set_option maxRecDepth 100000
theorem u32_chunks : ∀ {chunks : List (List D)}, (∀ c ∈ chunks, TC T 48 c) → ∃ xs : List Nat, chunks.flatten = u32s xs ∧ xs.length = chunks.length ∧ Dig xs
  | [], _ => ⟨[], rfl, rfl, Dig.nil⟩
  | c :: cs, h => by
    obtain ⟨xs, e1, e2, e3⟩ := u32_chunks (chunks := cs) fun c hc => h c (by simp [hc])
    obtain ⟨n, rfl, hw⟩ := (h c (by simp)).int_inv T_48
    have hn : 0 ≤ n ∧ n < 4294967296 := by simp [Lit.wf, IntKind.min, IntKind.max, IntKind.bits, IntKind.signed] at hw; omega
    obtain ⟨x, rfl⟩ := Int.eq_ofNat_of_zero_le hn.1
    exact ⟨x :: xs, by simp [e1, u32s], by simp [e2], Dig.cons.2 ⟨by omega, e3⟩⟩
theorem big_inv {cs : List D} (h : TFields T [(0, 4), (1, 22)] cs) : ∃ (b : Bool) (xs : List Nat), cs = [.v (.bool b), .ro xs.length (u32s xs)] ∧ Dig xs := by
  obtain ⟨p, r, rfl, h1, p2, r2, rfl, h2, rfl⟩ := h
  obtain ⟨b, rfl⟩ := h1.bool_inv T_4
  obtain ⟨chunks, rfl, hl, hc⟩ := h2.slice_inv T_22
  obtain ⟨xs, e1, e2, e3⟩ := u32_chunks hc
  exact ⟨b, xs, by rw [e1, ← e2]; rfl, e3⟩
end Go.Proofs.Ytgilijgbljgekaa
