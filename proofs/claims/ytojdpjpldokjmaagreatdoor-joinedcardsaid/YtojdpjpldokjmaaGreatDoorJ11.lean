/- The keeps' own: numbers and conditions made of raw numbers. -/
import Derived.Test.YtojdpjpldokjmaaGreatDoorJ09
import Derived.Test.YtojdpjpldokjmaaGreatDoorJ10
namespace Go.Proofs.YtojdpjpldokjmaaGreatDoor
open Go.RowKit Go.Deep
set_option linter.unusedSimpArgs false
set_option linter.unusedVariables false

theorem mod_nat (k n : Nat) : ((k : Int) % (n : Int)).toNat = k % n := by rw [← Int.natCast_emod, Int.toNat_natCast]
theorem pickK_N (c : Int) (n : Nat) : Pl.pickK c n = Pl.pickN c n := by
  unfold Pl.pickK Pl.pickN
  split
  · obtain ⟨k, hk⟩ : ∃ k : Nat, -(c + 1) = (k : Int) := ⟨(-(c + 1)).toNat, by omega⟩
    rw [hk, mod_nat, Int.toNat_natCast]
  · obtain ⟨k, rfl⟩ : ∃ k : Nat, c = (k : Int) := ⟨c.toNat, by omega⟩
    rw [mod_nat, Int.toNat_natCast]
theorem add_block (p : Addr) (i : Nat) : (p.add i).block = p.block := by
  unfold Addr.add
  split <;> rfl
/-- Raw numbers in memory, only read. -/
def IntsAt (w : World) (raw : List Int) (v : Value) : Prop := ∃ a c, v = .slice a raw.length c ∧ (raw ≠ [] → ∃ p : Addr, a = some p ∧ p.block < w.heap.size ∧ ∀ (i : Nat) x, raw[i]? = some x → w.cell? (p.add i) = some (.int .i64 x))
theorem IntsAt.below {w w' : World} {raw : List Int} {v : Value} (h : IntsAt w raw v) (hb : Below w.heap.size w w') : IntsAt w' raw v := by
  obtain ⟨a, c, h1, h2⟩ := h
  refine ⟨a, c, h1, fun hn => ?_⟩
  obtain ⟨p, h3, h4, h5⟩ := h2 hn
  exact ⟨p, h3, Nat.lt_of_lt_of_le h4 hb.size, fun i x hx => by rw [hb.cell (by rw [add_block]; exact h4)]; exact h5 i x hx⟩
def strsO (l : List (List UInt8)) : Obj := .cells (l.map fun x => Value.string ⟨x.toArray⟩).toArray 9
theorem strs_cell (w : World) (l : List (List UInt8)) {k : Nat} {x : List UInt8} (h : l[k]? = some x) : (w.alloc (strsO l)).cell? ⟨w.heap.size, k, none⟩ = some (.string ⟨x.toArray⟩) := by
  have := blk_cell (blk_new w (strsO l)) k
  rw [this]
  simp [h]
end Go.Proofs.YtojdpjpldokjmaaGreatDoor
/- The keeps' own: conditions made of raw numbers. -/
namespace Go.Proofs.YtojdpjpldokjmaaGreatDoor
open Go.RowKit Go.Deep
set_option linter.unusedSimpArgs false
set_option linter.unusedVariables false

theorem cat3 (a b c : List UInt8) : ((({ data := a.toArray } : ByteArray) ++ { data := b.toArray }) ++ { data := c.toArray }) = ⟨(a ++ b ++ c).toArray⟩ := by
  rw [ByteArray.mk_append_mk, ByteArray.mk_append_mk]
end Go.Proofs.YtojdpjpldokjmaaGreatDoor
