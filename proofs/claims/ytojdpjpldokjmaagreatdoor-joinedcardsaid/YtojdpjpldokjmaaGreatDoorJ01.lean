/- The leaves of the lexers: bytes that are letters, digits. -/
import Derived.Test.YtojdpjpldokjmaaGreatDoorProg
import Derived.Test.YtojdpjpldokjmaaGreatDoorJ00
import Derived.WalkKit
import Derived.WalkSpells
import Derived.WalkLawsBesides
namespace Go.Proofs.YtojdpjpldokjmaaGreatDoor
open Go.RowKit

theorem ret_bool {a b : Bool} (h : a = b) : Ending.returned (.bool a) = .returned (.bool b) := by rw [h]
theorem ret_str {a b : ByteArray} (h : a = b) : Ending.returned (.string a) = .returned (.string b) := by rw [h]
theorem ret_int {k : IntKind} {a b : Int} (h : a = b) : Ending.returned (.int k a) = .returned (.int k b) := by rw [h]

set_option maxHeartbeats 400000 in
theorem isLetter_any (c : UInt8) (w : World) :
    Calls Tryz.prog 143 #[.int .u8 c.toNat] w fun e w' => e = .returned (.bool (Pl.isLet c)) ∧ w' = w := by
  go_enter Tryz.func143, Tryz.ntmps143
  go_wp2
  all_goals
    go_ret
    refine ⟨ret_bool ?_, rfl⟩
    rw [Bool.eq_iff_iff, Pl.isLet_iff]
    simp
    omega

set_option maxHeartbeats 400000 in
theorem isDigit_any (c : UInt8) (w : World) :
    Calls Tryz.prog 145 #[.int .u8 c.toNat] w fun e w' => e = .returned (.bool (Pl.isDig c)) ∧ w' = w := by
  go_enter Tryz.func145, Tryz.ntmps145
  go_wp2
  all_goals
    go_ret
    refine ⟨ret_bool ?_, rfl⟩
    rw [Bool.eq_iff_iff, Pl.isDig_iff]
    simp
    omega

set_option maxHeartbeats 400000 in
theorem isLetterOrDigit_any (c : UInt8) (w : World) :
    Calls Tryz.prog 201 #[.int .u8 c.toNat] w fun e w' => e = .returned (.bool (Pl.isLD c)) ∧ w' = w := by
  cases hl : Pl.isLet c
  all_goals
    go_enter Tryz.func201, Tryz.ntmps201
    go_wp2_with (first | (go_at_call 143; refine (isLetter_any _ _).mono ?_; rintro e w' ⟨rfl, rfl⟩) | (go_at_call 145; refine (isDigit_any _ _).mono ?_; rintro e w' ⟨rfl, rfl⟩))
    go_ret
    exact ⟨ret_bool (by simp [Pl.isLD, hl]), rfl⟩

end Go.Proofs.YtojdpjpldokjmaaGreatDoor
/- Frames: a world in which one old block alone may have turned; a block known whole. -/
namespace Go.Proofs.YtojdpjpldokjmaaGreatDoor
open Go.RowKit

theorem hide {p : Prop} (h : p) : Hid p := h
theorem unhide {p : Prop} (h : Hid p) : p := h
/-- Of what was there, the block rb alone may have turned. -/
structure Keeps (rb : Nat) (w w' : World) : Prop where
  os : w'.os = w.os
  tape : w'.tape = w.tape
  output : w'.output = w.output
  size : w.heap.size ≤ w'.heap.size
  block : ∀ k, k < w.heap.size → k ≠ rb → w'.heap[k]? = w.heap[k]?
theorem Keeps.refl (rb : Nat) (w : World) : Keeps rb w w := ⟨rfl, rfl, rfl, Nat.le_refl _, fun _ _ _ => rfl⟩
theorem Keeps.trans {rb : Nat} {a b c : World} (h : Keeps rb a b) (k : Keeps rb b c) : Keeps rb a c :=
  ⟨k.os.trans h.os, k.tape.trans h.tape, k.output.trans h.output, Nat.le_trans h.size k.size, fun i hi hne => (k.block i (Nat.lt_of_lt_of_le hi h.size) hne).trans (h.block i hi hne)⟩
theorem Keeps.below {rb : Nat} {a b c : World} (h : Keeps rb a b) (k : Below b.heap.size b c) : Keeps rb a c :=
  h.trans ⟨k.os, k.tape, k.output, k.size, fun i hi _ => k.block i hi⟩
theorem Keeps.set {rb : Nat} {a b : World} (h : Keeps rb a b) (o : Nat) (v : Value) : Keeps rb a (b.setCell ⟨rb, o, none⟩ v) :=
  h.trans ⟨rfl, rfl, rfl, by simp [World.setCell], fun i _ hne => Below.heap_setCell _ _ _ _ hne⟩
theorem Keeps.alloc {rb : Nat} {a b : World} (h : Keeps rb a b) (o : Obj) : Keeps rb a (b.alloc o) :=
  h.trans ⟨rfl, rfl, rfl, by simp, fun i hi _ => Below.heap_alloc _ _ _ hi⟩
theorem Keeps.drew {rb : Nat} {a b : World} (h : Keeps rb a b) : Keeps rb a b.drew := ⟨h.os, h.tape, h.output, h.size, h.block⟩
/-- A store into a block that is new since a. -/
theorem Keeps.setNew {rb : Nat} {a b : World} (h : Keeps rb a b) {p : Addr} (hp : a.heap.size ≤ p.block) (v : Value) : Keeps rb a (b.setCell p v) :=
  ⟨h.os, h.tape, h.output, by simp [World.setCell]; exact h.size, fun i hi hne => (Below.heap_setCell _ _ _ _ (by omega)).trans (h.block i hi hne)⟩
theorem Keeps.blk {rb : Nat} {w w' : World} (h : Keeps rb w w') {k : Nat} {o : Obj} (hne : k ≠ rb) (hk : w.heap[k]? = some o) : w'.heap[k]? = some o := by
  have hlt : k < w.heap.size := by
    rcases Nat.lt_or_ge k w.heap.size with h1 | h1
    · exact h1
    · rw [Array.getElem?_eq_none h1] at hk; cases hk
  rw [h.block k hlt hne, hk]
theorem below_blk {B : Nat} {w w' : World} (h : Below B w w') {k : Nat} {o : Obj} (hlt : k < B) (hk : w.heap[k]? = some o) : w'.heap[k]? = some o := by
  rw [h.block k hlt, hk]
theorem lt_of_blk {w : World} {k : Nat} {o : Obj} (hk : w.heap[k]? = some o) : k < w.heap.size := by
  rcases Nat.lt_or_ge k w.heap.size with h1 | h1
  · exact h1
  · rw [Array.getElem?_eq_none h1] at hk; cases hk

theorem blk_cell {w : World} {k : Nat} {C : Array Value} {t : TypeId} (h : w.heap[k]? = some (.cells C t)) (o : Nat) : w.cell? ⟨k, o, none⟩ = C[o]? := by
  unfold World.cell?; rw [h]; simp
theorem blk_frozen {w : World} {k : Nat} {C : Array Value} {t : TypeId} (h : w.heap[k]? = some (.cells C t)) (o : Nat) : w.frozen? ⟨k, o, none⟩ = false := by
  unfold World.frozen?; rw [h]; simp
theorem blk_set {w : World} {k : Nat} {C : Array Value} {t : TypeId} (h : w.heap[k]? = some (.cells C t)) (o : Nat) (v : Value) : (w.setCell ⟨k, o, none⟩ v).heap[k]? = some (.cells (C.setIfInBounds o v) t) := by
  unfold World.setCell
  simp only [Array.getElem?_modify, h, if_true, Option.map_some]
  rfl
theorem blk_set_ne {w : World} {k j : Nat} {X : Obj} (h : w.heap[k]? = some X) (hne : k ≠ j) (o : Nat) (v : Value) : (w.setCell ⟨j, o, none⟩ v).heap[k]? = some X := by
  rw [Below.heap_setCell _ _ _ _ hne, h]
theorem blk_alloc {w : World} {k : Nat} {X : Obj} (h : w.heap[k]? = some X) (o : Obj) : (w.alloc o).heap[k]? = some X := by
  rw [Below.heap_alloc _ _ _ (lt_of_blk h), h]
theorem blk_drew {w : World} {k : Nat} {X : Obj} (h : w.heap[k]? = some X) : w.drew.heap[k]? = some X := h
theorem blk_new (w : World) (o : Obj) : (w.alloc o).heap[w.heap.size]? = some o := by
  show (w.heap.push o)[w.heap.size]? = _
  rw [Array.getElem?_push, if_pos rfl]
end Go.Proofs.YtojdpjpldokjmaaGreatDoor
