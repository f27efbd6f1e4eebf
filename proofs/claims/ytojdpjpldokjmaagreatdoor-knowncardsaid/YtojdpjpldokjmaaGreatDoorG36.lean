/- The keeps' own: numbers and conditions made of raw numbers. -/
import Derived.Test.YtojdpjpldokjmaaGreatDoorG09
import Derived.Test.YtojdpjpldokjmaaGreatDoorG35
namespace Go.Proofs.YtojdpjpldokjmaaGreatDoor
open Go.RowKit Go.Deep
set_option linter.unusedSimpArgs false
set_option linter.unusedVariables false

theorem add_block (p : Addr) (i : Nat) : (p.add i).block = p.block := by
  unfold Addr.add
  split <;> rfl
/-- Raw numbers in memory, only read. -/
def IntsAt (w : World) (raw : List Int) (v : Value) : Prop := ∃ a c, v = .slice a raw.length c ∧ (raw ≠ [] → ∃ p : Addr, a = some p ∧ p.block < w.heap.size ∧ ∀ (i : Nat) x, raw[i]? = some x → w.cell? (p.add i) = some (.int .i64 x))
theorem IntsAt.below {w w' : World} {raw : List Int} {v : Value} (h : IntsAt w raw v) (hb : Below w.heap.size w w') : IntsAt w' raw v := by
  obtain ⟨a, c, h1, h2⟩ := h
  refine ⟨a, c, h1, fun hn => ?_⟩
  obtain ⟨p, h3, h4, h5⟩ := h2 hn
  exact ⟨p, h3, Nat.lt_of_lt_of_le h4 hb.size, fun i x hx => by rw [hb.cell (by rw [add_block]; exact h4)]; exact h5 i x hx⟩
end Go.Proofs.YtojdpjpldokjmaaGreatDoor
